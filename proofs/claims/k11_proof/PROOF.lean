import PyProof.Rows.All
import Wide.All
import OpenK.AllK
import Wide.FinOn
import HandS.AnyAll
import HandS.ForMost
import HandS.IsInst
import HandS.Conv
import HandS.Exc
import HandS.TryOnly
import HandS.WordsExc
import HandS.ExcInit
import HandS.Wide
import HandS.TupAny
import HandS.TupMul
import HandS.Rev
import HandS.Style
import HandS.EndTab
import PyProof.ListNew
import HandS.Iter
import HandS.Walk
import KE.GoesEnum
import HandS.Zip
import HandS.NoneIn
import PyProof.Rows.ReprR
import PyProof.ReprLen
import PySem.Challenge.RW_stillopen_k11_whole_machines_on_trees_an
set_option Elab.async false
set_option linter.all false
set_option maxRecDepth 100000
set_option maxHeartbeats 4000000
namespace SoGx
open PySem PySem.Spec PyProof.Rows L2 GxR
/-- an element that may ask the module's names too -/
def EltG (prog : Program) (w : World) (mg : Str → Option Value) (scope : Scope) (x : Str) (elt : Expr) (pb : Nat → Bool) : Prop :=
  ∀ (cenv : Env) (A' : Around) (E' : Value → Shared → Prop) (c : Nat) (t : Tok) (z : Shared) (m : Str → Option Value),
    cenv.scope = scope → cenv.globals = mainGlobals → z.heap.Ns mainGlobals mg → z.heap.Ns cenv.locals m → m x = some (.str ⟨#[c]⟩ t) →
      wpAny (model prog w) A' (eval elt cenv) (fun y z' => y = .bool (pb c) ∧ Keeps z z') E' z
/-- x in NAME, NAME a text of the module -/
theorem elt_in {prog : Program} {w : World} {mg : Str → Option Value} {scope : Scope} {x g : Str} {l : Str} {tl : Tok} {p1 p2 p3 : Pos}
    (hk : scope.kind = .function) (hl : scope.names.lookup x = some .local) (hgl : scope.names.lookup g = some .globalImplicit) (hm : mg g = some (.str l tl))
    (hd : (x == ("__debug__" : Str)) = false := by decide) (hd2 : (g == ("__debug__" : Str)) = false := by decide) :
    EltG prog w mg scope x (.Compare (.Name x p1) [.In] [.Name g p2] p3) (fun c => decide (c ∈ l.cps.toList)) := by
  intro cenv A' E' c t z m hs hgs hG hn hx
  refine wpAny_Compare1 ?_
  refine wpAny_Name (wpAny_loadName_local (by rw [hs]; exact hk) (show cenv.scope.names.lookup x = some .local by rw [hs]; exact hl) hn hx ?_) hd
  refine Calls.Name_function_global (by rw [hs]; exact hk) (show cenv.scope.names.lookup g = some .globalImplicit by rw [hs]; exact hgl)
    (Calls.loadGlobal_global (by rw [hgs]; exact hG) hm ?_) hd2
  refine PyProof.Rows.in_str ⟨?_, keeps_refl _⟩
  rw [PySem.StrLaws.found_one l c]
section
variable {X : Cx} {pins : List (Addr × Obj)} {σ : L2.St} {H : Hp} {s : Shared}
theorem gen_glob {c P : Addr} {elt iter : Expr} {x : Str} {px gpos : Pos} {scope : Scope} {pb : Nat → Bool} {te : TE} {k : Nat}
    {W' : Value → Shared → Prop} {R : Str → Hp → Prop} (hr : Room k X.A) (TB : TabB X.base X.mg c P) (hcode : X.env.code = .ref c)
    (S : GenS X.env scope x) (hi : PE X iter te) (hel : EltG X.prog X.w X.mg scope x elt pb) (hs : ∀ v, genFold iter X.env v = pure v)
    (I : Inv X pins σ H s) (h : te σ H fun v H1 => ∃ a : Str, v = .str a ∧ TabG H1 P ∧ R a H1)
    (hQ : ∀ a H1 g z, R a H1 → Ready X pins σ H1 P a pb g z → W' (.ref g) z) :
    wpAny (model X.prog X.w) X.A (eval (.GeneratorExp elt [⟨.Name x px, iter, [], 0⟩] scope gpos) X.env) W' X.xe s := by
  have deep : X.A.depth < recursionLimit := by
    have := hr.dp
    omega
  refine wpAny_GeneratorExp_walksQ hr.hd S.co (closure_ok S.free) S.cell S.dot S.loc S.kind deep ?_ hs
  refine thn (hi.run pins s σ H _ I h) fun u z hz => ?_
  obtain ⟨v, J, I1, rv, a, rfl, ⟨ps, hP, ht⟩, hR⟩ := hz
  obtain ⟨t, rfl⟩ := _root_.id rv
  refine wpAny_pyIter_str fun o St W hst => ?_
  have atP : z.heap.get? P = some { cls := .none, data := .fields ps } := I1.hok P _ hP
  have ltP : P < z.heap.objs.size := Heap.lt_size atP
  have atP' : (z.heap.push o).get? P = some { cls := .none, data := .fields ps } := Heap.get?_push_of_some _ atP
  have cd : PySem.W.CodeHd (z.heap.push o) c P := TB.code.keeps fun b u e => Heap.get?_push_of_some _ (I1.bk b u e)
  have noL : (z.heap.push o).NoLimit := I1.nolimit.push o
  have szo : (z.heap.push o).objs.size = z.heap.objs.size + 1 := Heap.size_push ..
  refine ⟨noL, ?_⟩
  -- what comes behind the code object, however it was found
  have cont : ∀ (code : Value) (h3 : Heap) (tk : Nat) (qs : Array Value), Heap.ExtBut P (z.heap.push o) h3 → (z.heap.push o).objs.size ≤ h3.objs.size →
      h3.get? P = some { cls := .none, data := .fields qs } → (∃ more, qs = ps ++ more) → TriplesOk qs.toList →
      wpAny (model X.prog X.w) X.A (builtinsFor X.env.globals X.env.builtins) (fun bi r =>
        ∃ Ia fp wr n₀ Pf St₀ pz F, Value.ref z.heap.objs.size = .ref Ia ∧ (∀ A' : Around, A'.handled = none → Walks X.prog X.w A' Ia fp wr n₀ Pf St₀) ∧
          St₀ 0 r.heap ∧ (∀ b ∈ fp, b < r.heap.objs.size) ∧ r.heap.NoLimit ∧ cStatics ∉ wr ∧
          (∀ href : Heap, (∀ b o, r.heap.get? b = some o → href.get? b = some o) →
            QuietGen X.prog X.w (genEnv scope (cloFrom X.env.cells scope.names []) r.heap.objs.size code bi X.env) x [] elt (List.range r.heap.objs.size) wr Pf pz F href) ∧
          (∀ a h₅ tk gs, gs.bare = true → r.heap.objs.size < a → h₅.objs.size = a + 1 → (∀ b o, r.heap.get? b = some o → h₅.get? b = some o) →
            WalksS X.prog X.w X.A.in4 a (a :: r.heap.objs.size :: List.range r.heap.objs.size) (r.heap.objs.size :: wr) (GenOnlyQ r.gens.size) (passing pz n₀ 0).length
              (fun j y => ∃ i, (passing pz n₀ 0)[j]? = some i ∧ F i y) (GenAt X.prog X.w X.A.in4 a r.gens.size r.heap.objs.size (List.range r.heap.objs.size) wr pz n₀ F) →
            GenAt X.prog X.w X.A.in4 a r.gens.size r.heap.objs.size (List.range r.heap.objs.size) wr pz n₀ F 0 { r with gens := r.gens.push gs, toks := tk, heap := h₅ } →
            W' (.ref a) { r with gens := r.gens.push gs, toks := tk, heap := h₅ })) X.xe { z with heap := h3, toks := tk } := by
    intro code h3 tk qs hx hsz hP3 hmore ht3
    obtain ⟨bm, ob, e1, e2, e3, e4, e5, e6, e7, e8⟩ := TB.bm
    have cP : cStatics ≠ P := fun e => by
      obtain ⟨_, hns, _⟩ := I1.nolimit
      obtain ⟨o', es, ep, ho, hd, _⟩ := hns
      rw [e, atP] at ho
      cases ho
      cases hd
    have cLt : cStatics < z.heap.objs.size := let ⟨_, hns, _⟩ := I1.nolimit; hns.lt
    have stay : ∀ b u, b ≠ P → z.heap.get? b = some u → h3.get? b = some u := fun b u hb e => hx b u hb (Heap.get?_push_of_some _ e)
    have gl3 : h3.Ns mainGlobals X.mg := ((I1.mod.glob.keeps I1.bk).push o).extBut hx TB.gP
    refine wpAny_builtinsFor (m := X.mg) (by rw [I1.ok.glob]; exact gl3) e1 e2 (stay _ _ e4 (I1.bk _ _ e5)) e6 e7 e8 ?_
    refine ⟨z.heap.objs.size, [z.heap.objs.size], [z.heap.objs.size], a.cps.size, SignAt a, St, (fun _ => true),
      (fun i y => ∃ cc, a.cps[i]? = some cc ∧ y = .bool (pb cc)), rfl, W, ?_, ?_, noL.extBut hx cP, ?_, ?_, ?_⟩
    · refine (W X.A hr.hd).frame _ _ _ hst fun b hb u e => hx b u (fun q => ?_) e
      rcases List.mem_cons.mp hb with q2 | q2
      · exact Nat.ne_of_lt ltP (q.symm.trans q2)
      · cases q2
    · intro b hb
      rcases List.mem_cons.mp hb with q | q
      · rw [q]
        show z.heap.objs.size < h3.objs.size
        omega
      · cases q
    · intro q
      rcases List.mem_cons.mp q with q | q
      · exact Nat.ne_of_lt cLt q
      · cases q
    · intro href hh
      refine ⟨fun A' E' i v s₂ m₂ hA hPv hn hm hk => ?_, fun A' E' i v s₂ m₂ hA hPv hp hn hm hk => ?_⟩
      · simp only [List.forIn_nil]
        exact wpAny_pure ⟨rfl, keeps_refl _⟩
      · obtain ⟨cc, u, hcc, rfl⟩ := hPv
        have gl : s₂.heap.Ns mainGlobals X.mg := by
          obtain ⟨og, es, ep, ho, r⟩ := gl3
          have lt3 : mainGlobals < h3.objs.size := Heap.lt_size ho
          refine ⟨og, es, ep, hk mainGlobals (List.mem_range.mpr lt3) (fun q => ?_) og (hh _ _ ho), r⟩
          rcases List.mem_cons.mp q with q | q
          · obtain ⟨o9, _, _, ho9, _⟩ := I1.mod.glob.keeps I1.bk
            have := Heap.lt_size ho9
            rw [q] at this
            exact Nat.lt_irrefl _ this
          · cases q
        exact wpAny_mono (hel _ A' E' cc u s₂ m₂ rfl I1.ok.glob gl hn hm) (fun y s3 r => ⟨⟨cc, hcc, r.1⟩, r.2⟩) fun _ _ e => e
    · intro g h5 tk5 gs hgb hag hsz5 hk5 W5 hat
      simp only [GxR.passing_true, List.length_range] at W5
      refine hQ a J g _ hR ⟨_, _, _, _, _, W5.in4_1, hat, ?_, fun r hm => ?_⟩
      · intro j y sj Qj Ej hy hQj
        obtain ⟨i, hij, cc, hcc, rfl⟩ := hy
        obtain ⟨hj, ej⟩ := List.getElem?_eq_some_iff.mp hij
        rw [List.getElem_range] at ej
        subst ej
        have e9 : a.cps.toList[j]? = some cc := by rw [Array.getElem?_toList]; exact hcc
        have hQ2 : Qj (trF pb a.cps.toList j) sj := hQj
        rw [trF_some e9] at hQ2
        exact wpAny_truthy_bool hQ2
      · obtain ⟨more, em⟩ := hmore
        have nwr : ∀ b u, z.heap.get? b = some u → b ∉ h3.objs.size :: [z.heap.objs.size] := fun b u e hb => by
          have hl := Heap.lt_size e
          have hsz' : z.heap.objs.size + 1 ≤ h3.objs.size := by rw [← szo]; exact hsz
          rcases List.mem_cons.mp hb with q | q
          · have h9 : b = h3.objs.size := q
            have hl' : b < z.heap.objs.size := hl
            rw [h9] at hl'
            exact Nat.lt_irrefl _ (Nat.lt_of_lt_of_le hl' (Nat.le_trans (Nat.le_succ _) hsz'))
          · rcases List.mem_cons.mp q with q | q
            · rw [q] at hl
              exact Nat.lt_irrefl _ hl
            · cases q
        have G1 := inv_tab (more := more) (h' := r.heap) (g' := r.gens) (d' := r.drawn) (t' := r.toks) I1 hP
          (fun b u hb e => hm.heap b u (nwr b u e) (hk5 b u (stay b u hb e))) (by rw [← em]; exact hm.heap P _ (nwr P _ atP) (hk5 P _ hP3)) (AllBare.movedS (I1.bare.push hgb) hm)
        rw [sh_eta z r hm.os] at G1
        exact ⟨upd J P (.tbl (ps ++ more)), ⟨⟨ps ++ more, upd_same, by rw [← em]; exact ht3⟩, fun b hb => upd_ne hb⟩, G1⟩
  cases hf : codeAmong gpos ps.toList with
  | none =>
    refine wpAny_genexprCodeX hcode (cd.code atP' ht) (cd.tab atP') hf fun c' h' tk hx hge hlt hco' _ htab' _ => ?_
    obtain ⟨o1, vs, f1, tf, fl, tg, inF, tx, tt, op, _, _, _, _, _, _, _, _, _, htr, _⟩ := hco'
    exact cont _ h' tk _ hx (Nat.le_trans hge (Nat.le_of_lt hlt)) htab'.2 ⟨_, rfl⟩ htr
  | some cv =>
    refine wpAny_genexprCode_hit hcode (cd.code atP' ht) hf ?_
    exact cont cv (z.heap.push o) z.toks ps (Heap.ExtBut.refl _ _) (Nat.le_refl _) atP' ⟨#[], by simp⟩ ht
/-- all(elt for x in e), e a text, the element asking the module's names -/
theorem pe_allG {c P : Addr} {elt iter : Expr} {x : Str} {px p pos gpos : Pos} {scope : Scope} {pb : Nat → Bool} {te : TE} {k : Nat}
    (hr : Room k X.A) (hg : Gl X "all") (hm : X.mg "all" = none) (hb : bootBuiltins "all" = some (.builtin "all")) (TB : TabB X.base X.mg c P)
    (hcode : X.env.code = .ref c) (S : GenS X.env scope x) (hi : PE X iter te) (hel : EltG X.prog X.w X.mg scope x elt pb) (hs : ∀ v, genFold iter X.env v = pure v)
    (he : starEach [.GeneratorExp elt [⟨.Name x px, iter, [], 0⟩] scope gpos] X.env =
      (false, eval (.GeneratorExp elt [⟨.Name x px, iter, [], 0⟩] scope gpos) X.env) :: starEach [] X.env := by rfl) :
    PE X (.Call (.Name "all" p) [.GeneratorExp elt [⟨.Name x px, iter, [], 0⟩] scope gpos] [] pos) (tAllS P pb te) := by
  refine ⟨fun pins s σ H Q I h => ?_⟩
  refine wpAny_Call_Name_kw (ld_blt I hg hm hb ?_)
  refine PyProof.Rows.callWith_builtin1 ?_ he (by rfl)
  rw [he]
  show wpAny _ _ (spliced ((false, eval (.GeneratorExp elt [⟨.Name x px, iter, [], 0⟩] scope gpos) X.env) :: backTo pos (starEach [] X.env))) _ _ s
  refine Calls.spliced_cons (gen_glob (R := fun a H1 => ∀ H2, Tabbed P H1 H2 → Q (.bl (a.cps.toList.all pb)) H2) hr TB hcode S hi hel hs I h fun a H1 g z hR hG => ?_)
  obtain ⟨fp, wr, G, F, St, W, hst, htr, hI⟩ := hG
  refine Calls.spliced_nil ?_
  refine call_all_walkS (W.self 0 _ _ _ hst ⟨g, fp, wr, G, _, F, St, _, rfl, W, hst, htr, fun r hmv => ?_⟩)
  obtain ⟨H2, hT, J⟩ := hI r hmv
  refine ⟨.bl _, H2, J, rfl, ?_⟩
  rw [all_signs a pb]
  exact hR H2 hT
end
end SoGx

set_option Elab.async false
set_option linter.all false
set_option maxRecDepth 100000
set_option maxHeartbeats 4000000
namespace So
open PySem PySem.Spec PyProof.Rows L2
abbrev TabG := @GxR.TabG
/-- all but the table at P stands as before; the table stands still a table -/
def Sm (P : Addr) (H H' : Hp) : Prop := (∀ b o, b ≠ P → H b = some o → H' b = some o) ∧ GxR.TabG H' P
theorem tab_tup {H : Hp} {P b : Addr} {u : HO} (t : GxR.TabG H P) (h : H b = some u) (n : ∀ ps, u ≠ .tbl ps) : b ≠ P := fun z => by
  obtain ⟨ps, e, _⟩ := t
  rw [z, e] at h
  exact n ps (Option.some.inj h).symm
theorem Sm.refl {P : Addr} {H : Hp} (t : GxR.TabG H P) : Sm P H H := ⟨fun _ _ _ h => h, t⟩
theorem Sm.trans {P : Addr} {H H1 H2 : Hp} (a : Sm P H H1) (b : Sm P H1 H2) : Sm P H H2 := ⟨fun c o n h => b.1 c o n (a.1 c o n h), b.2⟩
theorem Sm.new {P p : Addr} {H : Hp} {o : HO} (t : GxR.TabG H P) (h : H p = none) : Sm P H (upd H p o) := by
  obtain ⟨ps, e, r⟩ := t
  refine ⟨fun b u _ e => ?_, ⟨ps, ?_, r⟩⟩
  · rw [upd_ne (ne_of_none e h)]
    exact e
  · rw [upd_ne (ne_of_none e h)]
    exact e
/-- what H does not know may change -/
theorem Sm.mut {P p : Addr} {H H' : Hp} {o : HO} (a : Sm P H H') (h : H p = none) (n : p ≠ P) : Sm P H (upd H' p o) := by
  obtain ⟨k, ps, e, r⟩ := a
  refine ⟨fun b u nb e => ?_, ⟨ps, ?_, r⟩⟩
  · rw [upd_ne (ne_of_none e h)]
    exact k b u nb e
  · rw [upd_ne (Ne.symm n)]
    exact e
theorem Sm.of_tabbed {P : Addr} {H H' : Hp} (h : GxR.Tabbed P H H') : Sm P H H' := ⟨fun b o n e => by rw [h.2 b n]; exact e, h.1⟩
section
variable {K : PySem.W.Frag} {P a : Addr} {H H' : Hp} {xs : List V}
theorem Sm.tup (t : GxR.TabG H P) (s : Sm P H H') (h : SqT K H a xs) : SqT K H' a xs := by
  rcases h with (h | ⟨o, h⟩) | h
  · exact .inl (.inl (s.1 _ _ (tab_tup t h (fun _ q => nomatch q)) h))
  · exact .inl (.inr ⟨o, s.1 _ _ (tab_tup t h (fun _ q => nomatch q)) h⟩)
  · exact .inr h
theorem Sm.lst (t : GxR.TabG H P) (s : Sm P H H') (h : SqL K H a xs) : SqL K H' a xs := by
  rcases h with (h | ⟨o, h⟩) | h
  · exact .inl (.inl (s.1 _ _ (tab_tup t h (fun _ q => nomatch q)) h))
  · exact .inl (.inr ⟨o, s.1 _ _ (tab_tup t h (fun _ q => nomatch q)) h⟩)
  · exact .inr h
theorem Sm.atL (t : GxR.TabG H P) (s : Sm P H H') (h : H a = some (.lst xs)) : H' a = some (.lst xs) := s.1 _ _ (tab_tup t h (fun _ q => nomatch q)) h
theorem Sm.free (s : Sm P H H') (t : GxR.TabG H P) (h : H' a = none) : H a = none := by
  cases q : H a with
  | none => rfl
  | some o =>
    by_cases e : a = P
    · obtain ⟨ps, z, _⟩ := s.2
      rw [e, z] at h
      cases h
    · rw [s.1 _ _ e q] at h
      cases h
end
/-- a def of the text as its callers need it -/
structure Df (K : PySem.W.Frag) (mg : Str → Option Value) (x : Str) (st : Stmt) (ps : List Str) (f : Addr) (fd : FuncData) : Prop where
  F : Fun K x x st f fd
  g : mg x = some (.ref f)
  b : Binds K fd ps []
/-- .. with its code object -/
structure DfC (K : PySem.W.Frag) (mg : Str → Option Value) (x : Str) (st : Stmt) (ps : List Str) (f : Addr) (fd : FuncData) (c : Addr) : Prop where
  ex : ∃ (oc : Value) (od : Option Addr) (kV doc pm : Value) (an : Option Addr) (ct : Value) (osl : Array (Option Value)),
    fd = PySem.W.fnOf x x (defArgs st) (defBody st) (defScope st) .none kV doc pm an (.ref c) ct ∧ K.lookup f = some ⟨oc, od, .func fd, osl⟩ ∧ PySem.W.codeIn K (.ref c) x = true
  kp : PySem.W.keepIn K (.ref f) = true
  g : mg x = some (.ref f)
  b : Binds K fd ps []
theorem DfC.ok {Pg : Program} {w : World} {K : PySem.W.Frag} {mg : Str → Option Value} {base : Heap} {x : Str} {st : Stmt} {f c : Addr} {fd : FuncData} {N ps : List Str} {k : Nat} {sp : Sp} {CX : CXT}
    (F : DfC K mg x st ps f fd c) (S : FnScope N ps (defScope st)) (len : ∀ vs H Q E, sp vs H Q E → vs.length = ps.length)
    (body : ∀ (A : Around) (outer : List Env) (s : Shared) (H : Hp) (vs : List V) (Q : VK) (E : XK), Room k (A.deeper (envOfC x (defScope st) s.heap.objs.size f (.ref c))) → sp vs H Q E →
      ∃ t, PSs (cxOf CX Pg w K mg base N x (defScope st) f (.ref c) A outer s H E) (defBody st) t ∧ t { nx := fun _ H' => Q .non H', rt := Q } (start N vs) H) :
    FnOk Pg w K mg base CX (k + 1) f fd ps sp := by
  obtain ⟨oc, od, kV, doc, pm, an, ct, osl, rfl, lk, hcd⟩ := F.ex
  exact fn_of lk hcd S len body
/-- a pure def: what it asks, what it gives, all else standing -/
def Pu (P : Addr) (pre : List V → Hp → (V → Hp → Prop) → Prop) : Sp := fun vs H Q _ => GxR.TabG H P ∧ ∃ R : V → Hp → Prop, pre vs H R ∧ ∀ v H', Sm P H H' → R v H' → Q v H'
end So

set_option Elab.async false
set_option linter.all false
set_option maxRecDepth 100000
set_option maxHeartbeats 4000000
namespace K6
open PySem PySem.Spec PyProof.Rows L2 So
def top (i : Nat) : Stmt := PySem.Challenge.pw_stillopen_k11_whole_machines_on_trees_an.main.body.getD i (.Pass ⟨0, 0, 0, 0⟩)
def lets : Str := "abcdefghijklmnopqrstuvwxyz"
structure Tx (K : PySem.W.Frag) (mg : Str → Option Value) : Prop where
  isi : mg "isinstance" = none
  list : mg "list" = none
  tuple : mg "tuple" = none
  len : mg "len" = none
  int : mg "int" = none
  bool : mg "bool" = none
  str : mg "str" = none
  all : mg "all" = none
  enumerate : mg "enumerate" = none
  reversed : mg "reversed" = none
  range : mg "range" = none
  abs : mg "abs" = none
  sorted : mg "sorted" = none
  min : mg "min" = none
  letters : ∃ t, mg "LETTERS" = some (.str lets t)
  lmost : ∃ t, mg "LABEL_MOST" = some (.int 12 t)
  tmost : ∃ t, mg "TEXT_MOST" = some (.int 65535 t)
theorem tyT {K : PySem.W.Frag} {H : Hp} {p : Addr} {xs : List V} (h : SqT K H p xs) : TyX K H (.ref p) (.type "tuple") := by
  rcases h with (h | ⟨o, h⟩) | ⟨o, its, n, h, c, _⟩
  · exact .base (.tup h)
  · exact .fTuple h
  · exact .kTuple h c
theorem kitTrue {K : PySem.W.Frag} : PySem.W.kitAny K (.type "tuple") [.type "list", .type "tuple"] = some true :=
  kitAny_cons (b := false) (kit_ty (by decide +kernel)) (fun _ => kitAny_cons (b := true) (kit_ty (by decide +kernel)) (fun q => nomatch q) fun _ => rfl) (fun q => nomatch q)
section
variable {Pg : Program} {w : World} {K : PySem.W.Frag} {mg : Str → Option Value} {base : Heap} {P : Addr}
/-! ### is_sequence -/
abbrev sSeq : Stmt := top 10
theorem scSeq : FnScope ["value"] ["value"] (defScope sSeq) := ⟨rfl, rfl, rfl, by decide +kernel, rfl, by decide +kernel, by decide +kernel⟩
def spSeq (K : PySem.W.Frag) (P : Addr) : Sp := Pu P fun vs H R => ∃ (p : Addr) (xs : List V), vs = [.ref p] ∧ SqT K H p xs ∧ R = fun v _ => v = .bl true
theorem ok_seq {f : Addr} {fd : FuncData} (F : Fun K "is_sequence" "is_sequence" sSeq f fd) (T : Tx K mg) : FnOk Pg w K mg base CX0 1 f fd ["value"] (spSeq K P) := by
  refine F.ok scSeq (fun vs H Q E h => ?_) (fun cdv A outer s H vs Q E hr h => ?_)
  · obtain ⟨_, _, ⟨p, xs, rfl, _⟩, _⟩ := h
    rfl
  · obtain ⟨t, _, ⟨p, xs, rfl, hx, rfl⟩, k⟩ := h
    refine ⟨_, pss_one (ps_ret (pe_callB call_isiT (by rfl) T.isi (by decide +kernel) (pa_cons (pv 0) (pa_cons (pe_tup (pa_cons (pe_bltn (v := .ty "list") (by rfl) T.list (by decide +kernel) rfl) (pa_cons (pe_bltn (v := .ty "tuple") (by rfl) T.tuple (by decide +kernel) rfl) pa_nil))) pa_nil)))), ?_⟩
    refine ⟨_, rfl, (by show 2 ≤ sizeLine; decide), fun q hq => ?_⟩
    have s1 : Sm P H (upd H q (.tup [.ty "list", .ty "tuple"])) := Sm.new t hq
    exact ⟨_, q, _, _, _, true, rfl, upd_same, .cons (.ty _) (.cons (.ty _) .nil), tyT (s1.tup t hx), kitTrue, k _ _ s1 rfl⟩
/-! ### is_row_of -/
abbrev sRow : Stmt := top 11
theorem scRow : FnScope ["value", "many"] ["value", "many"] (defScope sRow) := ⟨rfl, rfl, rfl, by decide +kernel, rfl, by decide +kernel, by decide +kernel⟩
def spRow (K : PySem.W.Frag) (P : Addr) : Sp := Pu P fun vs H R => ∃ (p : Addr) (xs : List V) (n : Int), vs = [.ref p, .int n] ∧ SqT K H p xs ∧ R = fun v _ => v = .bl (decide ((xs.length : Int) = n))
theorem ok_row {f fS : Addr} {fd fdS : FuncData} (F : Fun K "is_row_of" "is_row_of" sRow f fd) (T : Tx K mg) (S : Df K mg "is_sequence" sSeq ["value"] fS fdS) : FnOk Pg w K mg base CX0 2 f fd ["value", "many"] (spRow K P) := by
  have GS : FnOk Pg w K mg base CX0 1 fS fdS ["value"] (spSeq K P) := ok_seq S.F T
  refine F.ok scRow (fun vs H Q E h => ?_) (fun cdv A outer s H vs Q E hr h => ?_)
  · obtain ⟨_, _, ⟨p, xs, n, rfl, _⟩, _⟩ := h
    rfl
  · obtain ⟨t, _, ⟨p, xs, n, rfl, hx, rfl⟩, k⟩ := h
    refine ⟨_, pss_one (ps_ret (pe_and (pe_call GS hr (by rfl) S.g S.F.kp S.b .nil pass0 (pa_cons (pv 0) pa_nil)) (pe_one (pe_cmpR op_eq (pe_callB call_len_seq (by rfl) T.len (by decide +kernel) (pa_cons (pv 0) pa_nil)) (pv 1) (nomark _))))), ?_⟩
    refine ⟨_, rfl, t, _, ⟨p, xs, rfl, hx, rfl⟩, fun v H' s1 e => ⟨true, e, ?_⟩⟩
    refine iteT ⟨_, rfl, p, xs, rfl, .inr (s1.tup t hx), _, rfl, rfl, ?_⟩
    refine k _ _ s1 ?_
    show V.bl (decide (V.int (xs.length : Int) = V.int n)) = V.bl (decide ((xs.length : Int) = n))
    by_cases e : (xs.length : Int) = n
    · rw [decide_eq_true e, decide_eq_true (congrArg V.int e)]
    · rw [decide_eq_false e, decide_eq_false (fun q => e (V.int.inj q))]
/-! ### is_number, of an int -/
abbrev sNum : Stmt := top 8
theorem scNum : FnScope ["value"] ["value"] (defScope sNum) := ⟨rfl, rfl, rfl, by decide +kernel, rfl, by decide +kernel, by decide +kernel⟩
def spNum (P : Addr) : Sp := Pu P fun vs H R => ∃ n : Int, vs = [.int n] ∧ R = fun v _ => v = .bl (decide (n ≥ 0))
theorem ok_num {f : Addr} {fd : FuncData} (F : Fun K "is_number" "is_number" sNum f fd) (T : Tx K mg) : FnOk Pg w K mg base CX0 1 f fd ["value"] (spNum P) := by
  refine F.ok scNum (fun vs H Q E h => ?_) (fun cdv A outer s H vs Q E hr h => ?_)
  · obtain ⟨_, _, ⟨n, rfl, _⟩, _⟩ := h
    rfl
  · obtain ⟨t, _, ⟨n, rfl, rfl⟩, k⟩ := h
    refine ⟨_, pss_one (ps_ret (pe_and (pe_callB call_isi (by rfl) T.isi (by decide +kernel) (pa_cons (pv 0) (pa_cons (pe_bltn (v := .ty "int") (by rfl) T.int (by decide +kernel) rfl) pa_nil)))
      (pe_and (pe_not (pe_callB call_isi (by rfl) T.isi (by decide +kernel) (pa_cons (pv 0) (pa_cons (pe_bltn (v := .ty "bool") (by rfl) T.bool (by decide +kernel) rfl) pa_nil)))) (pe_one (pe_cmpR op_ge (pv 0) pe_int (nomark _)))))), ?_⟩
    refine ⟨_, rfl, _, _, _, _, true, rfl, .ty _, .base (.int n), kit_ty (by decide +kernel), true, rfl, iteT ?_⟩
    refine ⟨_, rfl, _, _, _, _, false, rfl, .ty _, .base (.int n), kit_ty (by decide +kernel), false, rfl, true, rfl, iteT ?_⟩
    exact ⟨_, rfl, _, _, rfl, rfl, k _ _ (Sm.refl t) rfl⟩
/-! ### is_text, of a text -/
abbrev sTxt : Stmt := top 13
theorem scTxt : FnScope ["value"] ["value"] (defScope sTxt) := ⟨rfl, rfl, rfl, by decide +kernel, rfl, by decide +kernel, by decide +kernel⟩
def spTxt (P : Addr) : Sp := Pu P fun vs H R => ∃ z : Str, vs = [.str z] ∧ z.length ≤ sizeLine ∧ R = fun v _ => v = .bl (decide ((z.length : Int) ≤ 65535))
theorem ok_txt {f : Addr} {fd : FuncData} (F : Fun K "is_text" "is_text" sTxt f fd) (T : Tx K mg) : FnOk Pg w K mg base CX0 1 f fd ["value"] (spTxt P) := by
  obtain ⟨_, tm⟩ := T.tmost
  refine F.ok scTxt (fun vs H Q E h => ?_) (fun cdv A outer s H vs Q E hr h => ?_)
  · obtain ⟨_, _, ⟨n, rfl, _⟩, _⟩ := h
    rfl
  · obtain ⟨t, _, ⟨z, rfl, hz, rfl⟩, k⟩ := h
    refine ⟨_, pss_one (ps_ret (pe_and (pe_callB call_isi (by rfl) T.isi (by decide +kernel) (pa_cons (pv 0) (pa_cons (pe_bltn (v := .ty "str") (by rfl) T.str (by decide +kernel) rfl) pa_nil)))
      (pe_one (pe_cmpR op_le (pe_callB call_len_str (by rfl) T.len (by decide +kernel) (pa_cons (pv 0) pa_nil)) (pe_glob (v := .int 65535) (by rfl) tm ⟨_, rfl⟩) (nomark _))))), ?_⟩
    refine ⟨_, rfl, _, _, _, _, true, rfl, .ty _, .base (.str z), kit_ty (by decide +kernel), true, rfl, iteT ?_⟩
    exact ⟨_, rfl, z, rfl, hz, _, _, rfl, rfl, k _ _ (Sm.refl t) rfl⟩
/-! ### is_label, of a text -/
abbrev sLab : Stmt := top 12
theorem scLab : FnScope ["value"] ["value"] (defScope sLab) := ⟨rfl, rfl, rfl, by decide +kernel, rfl, by decide +kernel, by decide +kernel⟩
def isLab (z : Str) : Bool := decide ((1 : Int) ≤ (z.length : Int)) && decide ((z.length : Int) ≤ 12) && z.cps.toList.all fun c => decide (c ∈ lets.cps.toList)
def spLab (P : Addr) : Sp := Pu P fun vs H R => ∃ z : Str, vs = [.str z] ∧ z.length ≤ sizeLine ∧ R = fun v _ => v = .bl (isLab z)
theorem ok_lab {f c : Addr} {fd : FuncData} (F : DfC K mg "is_label" sLab ["value"] f fd c) (T : Tx K mg) (TB : GxR.TabB base mg c P) : FnOk Pg w K mg base CX0 1 f fd ["value"] (spLab P) := by
  obtain ⟨_, tm⟩ := T.lmost
  obtain ⟨_, tl⟩ := T.letters
  refine F.ok scLab (fun vs H Q E h => ?_) (fun A outer s H vs Q E hr h => ?_)
  · obtain ⟨_, _, ⟨n, rfl, _⟩, _⟩ := h
    rfl
  · obtain ⟨t, _, ⟨z, rfl, hz, rfl⟩, k⟩ := h
    refine ⟨_, pss_cons (ps_if (PW.pt (pw_or (pt_not (pt_val (pe_callB call_isi (by rfl) T.isi (by decide +kernel) (pa_cons (pv 0) (pa_cons (pe_bltn (v := .ty "str") (by rfl) T.str (by decide +kernel) rfl) pa_nil)))))
        (pw_or1 (pt_not (pt_chain op_le op_le pe_int (pe_callB call_len_str (by rfl) T.len (by decide +kernel) (pa_cons (pv 0) pa_nil)) (pe_glob (v := .int 12) (by rfl) tm ⟨_, rfl⟩))))))
        (pss_one (ps_ret pe_bl)) pss_nil)
      (pss_one (ps_ret (SoGx.pe_allG (c := c) (P := P) (pb := fun c => decide (c ∈ lets.cps.toList)) hr (by rfl) T.all (by decide +kernel) TB rfl ⟨rfl, rfl, by decide +kernel, rfl, rfl, fun y hy e => False.elim (by revert hy e; revert y; decide +kernel)⟩ (pv 0) (SoGx.elt_in rfl rfl rfl tl) (fun _ => rfl)))), ?_⟩
    have key : ∀ b : Bool, b = isLab z → ∀ H', Sm P H H' → Q (.bl b) H' := fun b e H' s1 => k _ _ s1 (congrArg V.bl e)
    refine ⟨_, rfl, _, _, _, _, true, rfl, .ty _, .base (.str z), kit_ty (by decide +kernel), true, rfl, iteF ?_⟩
    refine ⟨_, rfl, z, rfl, hz, _, _, rfl, rfl, _, rfl, ?_⟩
    refine ite2 (fun h1 => ?_) (fun h1 => ?_)
    · refine ⟨_, _, rfl, rfl, _, rfl, ?_⟩
      by_cases h2 : (z.length : Int) ≤ 12
      · rw [decide_eq_true h2]
        refine iteF ?_
        refine ⟨_, rfl, z, rfl, t, fun H2 hT => key _ ?_ H2 (Sm.of_tabbed hT)⟩
        unfold isLab
        rw [h1, decide_eq_true h2]
        rfl
      · rw [decide_eq_false h2]
        refine iteT ?_
        refine key _ ?_ H (Sm.refl t)
        unfold isLab
        rw [decide_eq_false h2, Bool.and_false, Bool.false_and]
    · refine ⟨false, rfl, iteT ?_⟩
      refine key _ ?_ H (Sm.refl t)
      unfold isLab
      have e1 : decide ((1 : Int) ≤ (z.length : Int)) = false := Bool.eq_false_iff.mpr h1
      rw [e1, Bool.false_and, Bool.false_and]
end
end K6

set_option Elab.async false
set_option linter.all false
set_option maxRecDepth 100000
set_option maxHeartbeats 4000000
namespace SoRv
open PySem PySem.Spec PyProof.Rows L2 RT
theorem no_len : typeLookup (.type "reversed") "__len__" = pure none := by rw [typeLookup_type, builtinLookup_eq_fast]; kernel_rfl
theorem has_hint : typeLookup (.type "reversed") "__length_hint__" = pure (some (.builtin "reversed.__length_hint__")) := by rw [typeLookup_type, builtinLookup_eq_fast]; kernel_rfl
theorem slot_hint : Slot "reversed" "__length_hint__" "reversed.__length_hint__" :=
  .of (owner := "reversed") (n := "__length_hint__") (by rw [typeLookup_type, builtinLookup_eq_fast]; kernel_rfl) (by decide +kernel) (by decide +kernel) (by decide +kernel)
    (by first | exact .inl (by decide +kernel) | exact .inr (by decide +kernel)) (by rw [isSubtype_type]; kernel_rfl)
theorem entry_hint : entryFor table "reversed.__length_hint__" = some Builtin.«reversed.__length_hint__» := entryFor_of_tree (by kernel_rfl)
theorem args_hint (a : Value) : argsOk "reversed.__length_hint__" ⟨[a], []⟩ := by
  unfold argsOk
  rw [signature?_of (id := "reversed.__length_hint__") (n := ['_', '_', 't', 'n', 'i', 'h', '_', 'h', 't', 'g', 'n', 'e', 'l', '_', '_']) (o := ['d', 'e', 's', 'r', 'e', 'v', 'e', 'r']) (by kernel_rfl) owner_rt]
  kernel_rfl
theorem type_hint : typeOf (.builtin "reversed.__length_hint__") = pure (.type "method_descriptor") := by kernel_rfl
section
variable {prog : Program} {w : World} {A : Around} {E : Value → Shared → Prop} {s : Shared}
theorem walks_rt (hh : A.handled = none) (I t : Addr) (hne : t ≠ I) (items : Array Value) (hz : items.size ≤ sizeLine) :
    Walks prog w A I [I, t] [I] items.size (fun i v => items[items.size - 1 - i]? = some v) (fun i h => i ≤ items.size ∧ IsRt h I t ((items.size : Int) - 1 - (i : Int)) ∧ IsTup h t items) where
  sub := fun b hb => by simp at hb; simp [hb]
  frame := fun i h h' x hk => ⟨x.1, x.2.1.at fun o e => hk I (by simp) o e, by
    obtain ⟨o, ho, r⟩ := x.2.2
    exact ⟨o, hk t (by simp) o ho, r⟩⟩
  item := fun i s Q E hi x hQ => by
    obtain ⟨x1, hit, ht⟩ := x
    have e : (items.size : Int) - 1 - (i : Int) = ((items.size - 1 - i : Nat) : Int) := by omega
    rw [e] at hit
    have hx : items[items.size - 1 - i]? = some (items[items.size - 1 - i]'(by omega)) := Array.getElem?_eq_getElem (by omega)
    refine next_rt_item hit ht hx hz fun h' hit' hs' => ?_
    have e2 : ((items.size - 1 - i : Nat) : Int) - 1 = (items.size : Int) - 1 - ((i + 1 : Nat) : Int) := by omega
    rw [e2] at hit'
    refine hQ _ h' (s.toks + 1) hx ⟨hi, hit', ?_⟩ fun b o hb eo => hs'.extBut b o (fun h => hb (by simp [h])) eo
    obtain ⟨o, ho, r⟩ := ht
    exact ⟨o, (hs'.2 t hne).trans ho, r⟩
  done := fun s Q E x hQ => by
    have e : (items.size : Int) - 1 - (items.size : Int) = -1 := by omega
    have hit := x.2.1
    rw [e] at hit
    exact next_rt_end hh hit fun h' he' => hQ h' s.toks fun b o hb eo => he' b o (fun h => hb (by simp [h])) eo
  self := fun _ _ _ _ x hQ => iter_rt x.2.1 hQ
theorem hint_rt {it t : Addr} {items : Array Value} {Q : Value → Shared → Prop} (hit : IsRt s.heap it t ((items.size : Int) - 1)) (ht : IsTup s.heap t items) (hn : items.size ≤ sizeLine)
    (hQ : ∀ u tk, Q (.int (items.size : Nat) u) { s with toks := tk }) : wpAny (model prog w) A (call (.builtin "reversed.__length_hint__") [.ref it]) Q E s := by
  refine wpAny_call_entry slot_hint hit.typeIs entry_hint ?_ (args_hint _)
  obtain ⟨o, ho, hc, hd⟩ := id hit
  unfold Builtin.«reversed.__length_hint__»
  refine wpAny_bind (wpAny_of_eq (a := Value.ref it) rfl ?_)
  try dsimp only
  refine wpAny_bind (wpAny_field ho hd (x := .ref t) rfl ?_)
  try dsimp only
  rw [if_neg (by simp)]
  try dsimp only
  refine wpAny_bind (PyProof.Rows.len_tuple ht (by rw [sizeLine_eq] at hn; omega) ?_)
  try dsimp only
  refine wpAny_bind (wpAny_of_eq (a := some ((items.size : Nat) : Int)) rfl ?_)
  try dsimp only
  refine wpAny_bind (wpAny_field (s := { s with toks := s.toks + 1 + 1 }) ho hd (x := rawInt ((items.size : Int) - 1)) rfl ?_)
  try dsimp only
  show wpAny _ _ (if ((items.size : Nat) : Int) < ((items.size : Int) - 1) + 1 then _ else retInt (((items.size : Int) - 1) + 1)) _ _ _
  rw [if_neg (by omega), show ((items.size : Int) - 1) + 1 = ((items.size : Nat) : Int) by omega]
  unfold retInt
  exact wpAny_bind (wpAny_mkInt (wpAny_pure ⟨_, rfl, hQ _ _⟩))
theorem size_rt {it t : Addr} {items : Array Value} {Q : Bool → Shared → Prop} (hit : IsRt s.heap it t ((items.size : Int) - 1)) (ht : IsTup s.heap t items) (hn : items.size ≤ sizeLine)
    (hQ : ∀ tk, Q (((items.size : Nat) : Int) != 0) { s with toks := tk }) : wpAny (model prog w) A (Builtin.List.listLengthHint (.ref it)) Q E s := by
  have hT : s.TypeIs (.ref it) "reversed" := hit.typeIs
  unfold Builtin.List.listLengthHint
  refine wpAny_bind (wpAny_specialOf hT no_len ?_)
  show wpAny _ A (specialOf (Value.ref it) (Str.ofString "__length_hint__") >>= _) _ _ _
  refine wpAny_bind (wpAny_specialOf hT has_hint ?_)
  generalize hid : ("reversed.__length_hint__" : String) = id0
  wp_delta
  rw [show splitId id0 = some ("reversed", "__length_hint__") from by subst hid; decide +kernel]
  subst hid
  refine wpAny_bind (wpAny_isInstance (b := true) hT (by rw [isSubtype_type]; kernel_rfl) ?_)
  simp only [Bool.not_true, Bool.false_eq_true, if_false]
  rw [if_neg (by decide +kernel)]
  refine wpAny_bind (wpAny_rule ?_)
  unfold bindSpecial
  refine wpAny_bind (wpAny_bind (wpAny_of_eq type_hint ?_))
  rw [if_pos (by decide +kernel)]
  refine wpAny_pure ?_
  refine wpAny_bind (wpAny_attempt (hint_rt hit ht hn fun u tk => ?_))
  have big : (items.size : Int) < 2 ^ 63 := by
    rw [sizeLine_eq] at hn
    omega
  have fit : Builtin.List.listFitsIndex ((items.size : Nat) : Int) = true := by
    unfold Builtin.List.listFitsIndex
    simp only [Bool.and_eq_true, decide_eq_true_eq]
    exact ⟨by omega, big⟩
  have tl : Builtin.List.listTooLong (((items.size : Nat) : Int).toNat) = false := by
    simp only [Builtin.List.listTooLong, Int.toNat_natCast, decide_eq_false_iff_not]
    omega
  have ea : asInt? (Value.int ((items.size : Nat) : Int) u) = pure (some ((items.size : Nat) : Int)) := rfl
  dsimp only
  rw [ea]
  refine wpAny_bind ?_
  refine wpAny_pure ?_
  dsimp only
  simp only [fit, tl, Bool.not_true, Bool.false_eq_true, if_false, if_neg (show ¬ ((items.size : Nat) : Int) < 0 by omega)]
  exact wpAny_pure (hQ tk)
theorem extend_rt {it t S : Addr} {items : Array Value} {R : Result → Shared → Prop} {res : Value} {c₀ : Nat} (hh : A.handled = none) (hit : IsRt s.heap it t ((items.size : Int) - 1)) (ht : IsTup s.heap t items) (hne : t ≠ it)
    (hn : items.size ≤ sizeLine) (hS : s.heap.get? S = some { cls := .type "list", data := .seq #[] c₀ }) (hSi : S ≠ it)
    (hR : ∀ h' tk acc' c', (∀ b o, b ≠ S → b ≠ it → s.heap.get? b = some o → h'.get? b = some o) → h'.get? S = some { cls := .type "list", dict := none, data := .seq acc' c', slots := #[] } →
      ItemsOf (fun i v => items[items.size - 1 - i]? = some v) acc' items.size → R (.ok (.ret res)) { s with heap := h', toks := tk }) :
    wpAny (model prog w) A.in1 (Builtin.List.listExtendWith (.ref S) (.ref it) res)
      (fun fin s' => match fin with | .done f => R (.ok f) s' | .again c' => c'.quiet = true ∧ codeAny (model prog w) A c' R s') (fun e s' => R (.error e) s') s := by
  have St : S ≠ t := fun e => by
    obtain ⟨o, ho, hc, _⟩ := ht
    rw [← e, hS] at ho
    cases ho
    exact absurd hc (by simp)
  have W := (walks_rt (prog := prog) (w := w) (A := A.in1) hh it t hne items hn).toS
  have hSf : S ∉ [it, t] := by simp only [List.mem_cons, List.not_mem_nil, or_false, not_or]; exact ⟨hSi, St⟩
  have hT : s.TypeIs (.ref it) "reversed" := hit.typeIs
  have h1 : Builtin.List.listSameRef (.ref S) (.ref it) = false := by simp [Builtin.List.listSameRef, hSi]
  unfold Builtin.List.listExtendWith
  refine wpAny_bind (wpAny_typeOf hT ?_)
  rw [if_neg (by rw [h1]; decide)]
  refine wpAny_bind (iter_rt hit ?_)
  have go : ∀ (h : Heap) (c₁ tk : Nat), IsRt h it t ((items.size : Int) - 1) → IsTup h t items → (∀ b o, b ≠ S → s.heap.get? b = some o → h.get? b = some o) →
      h.get? S = some { cls := .type "list", data := .seq #[] c₁ } → codeAny (model prog w) A (.builtin "list.extend.loop" ⟨[.ref S, .ref it, res], []⟩) R { s with heap := h, toks := tk } := by
    intro h c₁ tk hit1 ht1 hk hS₁
    have e0 : ((items.size : Nat) : Int) - 1 - ((0 : Nat) : Int) = (items.size : Int) - 1 := by omega
    refine codeAny_extend_loopS W hn S hSf res items.size 0 _ #[] c₁ rfl (Nat.zero_le _) ⟨Nat.zero_le _, by rw [e0]; exact hit1, ht1⟩ hS₁ (ItemsOf.nil _) fun z acc' c' hm hS' hacc => ?_
    rw [Moved.eq_with hm]
    refine hR z.heap z.toks acc' c' (fun b o hb hi e => hm.heap b o (fun hmem => ?_) (hk b o hb e)) hS' hacc
    rcases List.mem_cons.mp hmem with e' | hmem
    · exact hb e'
    · exact hi (List.mem_singleton.mp hmem)
  refine wpAny_bind (wpAny_holding (size_rt hit ht hn fun tk => ?_))
  refine wpAny_ite_split (fun _ => ?_) (fun _ => wpAny_pure ⟨plainId_quiet F.plain_extend_loop _, go s.heap c₀ tk hit ht (fun b o _ e => e) hS⟩)
  refine wpAny_bind (wpAny_rule ?_)
  refine wpAny_bind ?_
  show wpAny _ _ (updateSeq S (·.push .none) >>= fun _ => updateSeq S (·.pop)) _ _ _
  refine wpAny_bind (wpAny_updateSeq hS rfl ?_)
  have hS₂ := Heap.get?_update_self (Obj.mapSeq (·.push Value.none)) hS rfl
  refine wpAny_updateSeq (hz := by seq_fits) hS₂ rfl ?_
  have hS₃ := Heap.get?_update_self (Obj.mapSeq (·.pop)) hS₂ rfl
  have oth : ∀ b o, b ≠ S → s.heap.get? b = some o → ((s.heap.update S (Obj.mapSeq (·.push Value.none))).update S (Obj.mapSeq (·.pop))).get? b = some o :=
    fun b o hb e => (Heap.get?_update_other _ _ (Ne.symm hb)).trans ((Heap.get?_update_other _ _ (Ne.symm hb)).trans e)
  refine wpAny_pure ⟨plainId_quiet F.plain_extend_loop _, go _ _ tk (hit.at fun o e => oth it o (Ne.symm hSi) e) ?_ oth hS₃⟩
  obtain ⟨o, ho, r⟩ := ht
  exact ⟨o, oth t o (Ne.symm St) ho, r⟩
/-- list(reversed(t)), the iterator at it -/
theorem list_rt {it t : Addr} {items : Array Value} {Q : Value → Shared → Prop} (hh : A.handled = none) (hit : IsRt s.heap it t ((items.size : Int) - 1)) (ht : IsTup s.heap t items) (hne : t ≠ it) (hn : items.size ≤ sizeLine)
    (hQ : ∀ h' tk acc c, (∀ b o, b ≠ it → s.heap.get? b = some o → h'.get? b = some o) → h'.get? s.heap.objs.size = some { cls := .type "list", dict := none, data := .seq acc c, slots := #[] } →
      ItemsOf (fun i v => items[items.size - 1 - i]? = some v) acc items.size → Q (.ref s.heap.objs.size) { s with heap := h', toks := tk }) :
    wpAny (model prog w) A (call (.type "list") [.ref it]) Q E s := by
  refine callType_codes (Q₁ := fun obj z => obj = .ref s.heap.objs.size ∧ z = { s with heap := s.heap.push { cls := .type "list", data := .seq #[] } }) F.called_list (F.typeCall_list_1 _) F.entry_list_init
    (code_list_new _ ⟨rfl, rfl⟩) fun obj z hz => ?_
  obtain ⟨rfl, rfl⟩ := hz
  have hS : (s.heap.push { cls := .type "list", data := .seq #[] }).get? s.heap.objs.size = some { cls := .type "list", data := .seq #[] } := Heap.get?_push_size _ rfl
  have hSi : s.heap.objs.size ≠ it := fun e => by
    obtain ⟨o, ho, _⟩ := hit
    have := Heap.lt_size ho
    rw [← e] at this
    exact Nat.lt_irrefl _ this
  refine ⟨⟨_, hS, rfl⟩, F.args_list_init_2 _ _, ?_⟩
  show wpAny _ _ (do let old ← Builtin.List.listItems (.ref s.heap.objs.size); Builtin.List.listUpdate (.ref s.heap.objs.size) (fun _ => #[]); letGo old.toList.reverse; Builtin.List.listExtendWith (.ref s.heap.objs.size) (.ref it) .none) _ _ _
  refine wpAny_bind ?_
  unfold Builtin.List.listItems
  refine wpAny_bind (wpAny_seqItems hS rfl (wpAny_pure ?_))
  show wpAny _ _ (updateSeq s.heap.objs.size (fun _ => #[]) >>= fun _ => letGo (#[] : Array Value).toList.reverse >>= fun _ => Builtin.List.listExtendWith (.ref s.heap.objs.size) (.ref it) .none) _ _ _
  refine wpAny_bind (wpAny_updateSeq hS rfl ?_)
  have hS₂ := Heap.get?_update_self (Obj.mapSeq (fun _ => (#[] : Array Value))) hS rfl
  have oth : ∀ b o, s.heap.get? b = some o → ((s.heap.push { cls := .type "list", data := .seq #[] }).update s.heap.objs.size (Obj.mapSeq (fun _ => (#[] : Array Value)))).get? b = some o :=
    fun b o e => (Heap.get?_update_other _ _ (Nat.ne_of_gt (Heap.lt_size e))).trans (Heap.get?_push_of_some _ e)
  refine wpAny_bind (wpAny_letGo ?_)
  have ht2 : IsTup ((s.heap.push { cls := .type "list", data := .seq #[] }).update s.heap.objs.size (Obj.mapSeq (fun _ => (#[] : Array Value)))) t items := by
    obtain ⟨o, ho, r⟩ := ht
    exact ⟨o, oth t o ho, r⟩
  refine extend_rt (A := A.in1) hh (hit.at fun o e => oth it o e) ht2 hne hn hS₂ hSi fun h' tk acc' c' hk hS' hacc => ?_
  exact ⟨rfl, hQ h' tk acc' c' (fun b o hb e => hk b o (Nat.ne_of_lt (Heap.lt_size e)) hb (oth b o e)) hS' hacc⟩
end
/-- list(reversed(x)), x a tuple: a new list -/
def tLstRev (K : PySem.W.Frag) (te : TE) : TE := fun σ H Q => te σ H fun v H1 => ∃ (a : Addr) (xs : List V), v = .ref a ∧ SqT K H1 a xs ∧ ∀ q, H1 q = none → Q (.ref q) (upd H1 q (.lst xs.reverse))
theorem pe_lstRev {X : Cx} {e : Expr} {te : TE} {p p2 pos pos2 : Pos} (hc : X.calm = true) (hg : Gl X "list") (hm : X.mg "list" = none) (hg2 : Gl X "reversed") (hm2 : X.mg "reversed" = none) (he : PE X e te)
    (hs : starEach [e] X.env = (false, eval e X.env) :: starEach [] X.env := by rfl)
    (hs2 : starEach [.Call (.Name "reversed" p2) [e] [] pos2] X.env = (false, eval (.Call (.Name "reversed" p2) [e] [] pos2) X.env) :: starEach [] X.env := by rfl) :
    PE X (.Call (.Name "list" p) [.Call (.Name "reversed" p2) [e] [] pos2] [] pos) (tLstRev X.K te) := by
  refine ⟨fun pins s σ H Q I h => ?_⟩
  refine Call_ (ld_blt I hg hm boot_list (PyProof.Rows.callWith_type1 (args_cons (Call_ (ld_blt I hg2 hm2 PyProof.Rows.boot_reversed (PyProof.Rows.callWith_type1 (args_cons (thn (he.run pins s σ H _ I h) fun u z hz => args_nil ?_) hs) hs rfl))) hs2) hs2 rfl))
  obtain ⟨v, H1, I1, r1, a, xs, rfl, hq, q⟩ := hz
  obtain rfl : u = Value.ref a := r1
  obtain ⟨its, rv, p', hz⟩ := I1.tuple hq
  have hl := rv.length
  have hn := line63
  have sz : its.toArray.size ≤ sizeLine := by rw [List.size_toArray, ← rv.length]; exact hz
  refine call_reversed_tup p' (fun A E Q k => len_tuple p' (by simp only [List.size_toArray] <;> omega) k) (args_nil ?_)
  have k0 : ∀ b o, z.heap.get? b = some o → (z.heap.push (rtObj a ((its.toArray.size : Int) - 1))).get? b = some o := fun b o e => Heap.get?_push_of_some _ e
  have I2 : Inv X pins σ H1 { z with heap := z.heap.push (rtObj a ((its.toArray.size : Int) - 1)), toks := z.toks + 1 + 1 } := I1.kept (t' := z.toks + 1 + 1) k0
  obtain ⟨f0, f1, f2, f3, f4, f5⟩ := I1.fpOk (H' := H1) (b := z.heap.objs.size) (Nat.le_refl _) (I1.hok.fresh (Nat.le_refl _))
  have tp : IsTup (z.heap.push (rtObj a ((its.toArray.size : Int) - 1))) a its.toArray := by
    obtain ⟨o, ho, r⟩ := p'
    exact ⟨o, k0 _ _ ho, r⟩
  have hne : a ≠ z.heap.objs.size := by
    obtain ⟨o, ho, _⟩ := p'
    exact Nat.ne_of_lt (Heap.lt_size ho)
  refine list_rt (s := { z with heap := z.heap.push (rtObj a ((its.toArray.size : Int) - 1)), toks := z.toks + 1 + 1 }) (I1.ok.hd hc) ⟨_, Heap.get?_push_size _ rfl, rfl, rfl⟩ tp hne sz fun h' tk acc c hk hS hi => ?_
  have szp : (z.heap.push (rtObj a ((its.toArray.size : Int) - 1))).objs.size = z.heap.objs.size + 1 := Heap.size_push ..
  have hf : H1 (z.heap.objs.size + 1) = none := I1.hok.fresh (Nat.le_succ _)
  have hS' : h'.get? (z.heap.objs.size + 1) = some { cls := .type "list", dict := none, data := .seq acc c, slots := #[] } := by rw [← szp]; exact hS
  have kz : ∀ b o, z.heap.get? b = some o → h'.get? b = some o := fun b o e => hk b o (Nat.ne_of_lt (Heap.lt_size e)) (k0 b o e)
  refine ⟨.ref (z.heap.objs.size + 1), upd H1 (z.heap.objs.size + 1) (.lst xs.reverse), ?_, ?_, q _ hf⟩
  · exact I1.laid (t' := tk) kz (Nat.le_succ _) (show ObjOk X.prog X.w _ _ _ (.lst xs.reverse) from ⟨by rw [List.length_reverse]; exact hz, acc.toList, c, vals_rev rv hi, by rw [Array.toArray_toList]; exact hS'⟩)
  · show Value.ref (z.heap.push (rtObj a ((its.toArray.size : Int) - 1))).objs.size = Value.ref (z.heap.objs.size + 1)
    rw [szp]
end SoRv

set_option Elab.async false
set_option linter.all false
set_option maxRecDepth 100000
set_option maxHeartbeats 4000000
namespace SoE
open PySem PySem.Spec PyProof.Rows L2
/-! ### enumerate of a tuple -/
theorem enum_new {v : Value} {o : Obj} {Z : Heap → Prop} (B : Begins v o Z) :
    Meets (Builtin.«enumerate.__new__» ⟨[.type "enumerate", v], []⟩) (fun _ R s => Z s.heap ∧
      R (.ok (.ret (.ref (s.heap.push o).objs.size))) { s with heap := (s.heap.push o).push { cls := .type "enumerate", data := .fields #[.none, .bool false, .ref s.heap.objs.size, rawInt 0, .none, .none] } }) :=
  .of_wp fun prog w A R s h => by
    obtain ⟨hp, g, d, tk, os⟩ := s
    obtain ⟨z, r⟩ := h
    have hsub := sub_enumerate
    have it0 : ∀ {A' : Around} {E : Value → Shared → Prop} {Q : Value → Shared → Prop}, Q (.ref hp.objs.size) ⟨hp.push o, g, d, tk, os⟩ →
        wpAny (model prog w) A' (pyIter v) Q E ⟨hp, g, d, tk, os⟩ := fun q => B.iter prog w _ _ ⟨hp, g, d, tk, os⟩ _ z q
    wp_walk using it0
    refine wpAny_stack_any fun st => wpAny_pure ?_
    split
    · rename_i c _ _ _ _ _
      cases (c == Value.type "enumerate") <;> (wp_walk using it0; exact ⟨_, rfl, r⟩)
    · wp_walk using it0
      exact ⟨_, rfl, r⟩
theorem enum_call {prog : Program} {w : World} {A : Around} {E : Value → Shared → Prop} {s : Shared} {v : Value} {o : Obj} {Z : Heap → Prop} {Q : Value → Shared → Prop} (B : Begins v o Z) (z : Z s.heap)
    (h : ∀ h', IsEnum h' (s.heap.objs.size + 1) s.heap.objs.size 0 .none → h'.get? s.heap.objs.size = some o → h'.objs.size = s.heap.objs.size + 2 →
      (∀ b u, s.heap.get? b = some u → h'.get? b = some u) → Q (.ref (s.heap.objs.size + 1)) { s with heap := h' }) : wpAny (model prog w) A (call (.type "enumerate") [v]) Q E s := by
  refine callType_new F.called_enumerate (by decide) (F.typeCall_enumerate_1 _) (F.newCall_enumerate_1 _) (fun obj => F.args_object_init_2 obj _) F.entry_enumerate_new (enum_new B) ⟨z, ?_⟩
  have sz : (s.heap.push o).objs.size = s.heap.objs.size + 1 := Heap.size_push ..
  show _ ∧ _
  rw [sz]
  have he : IsEnum ((s.heap.push o).push { cls := .type "enumerate", data := .fields #[.none, .bool false, .ref s.heap.objs.size, rawInt 0, .none, .none] }) (s.heap.objs.size + 1) s.heap.objs.size 0 .none := by
    have q := Heap.get?_push_size (s.heap.push o) (o := { cls := .type "enumerate", data := .fields #[.none, .bool false, .ref s.heap.objs.size, rawInt 0, .none, .none] }) rfl
    rw [sz] at q
    exact q
  exact ⟨⟨_, he, rfl⟩, h _ he (Heap.get?_push_of_some _ (Heap.get?_push_size _ B.free)) (by rw [Heap.size_push, sz]) fun b u x => Heap.get?_push_of_some _ (Heap.get?_push_of_some _ x)⟩
/-- the tuple at a, each item in a new pair with its place -/
def IteT (K : PySem.W.Frag) (a : Addr) : It :=
  ⟨fun i H => ∃ (xs : List V) (x : V), SqT K H a xs ∧ xs[i]? = some x,
    fun i H v H' => ∃ T x, v = .ref T ∧ H T = none ∧ H' = upd H T (.tup [.int (i : Nat), x]) ∧ ∀ xs, SqT K H a xs → xs[i]? = some x,
    fun i H => ∃ xs : List V, SqT K H a xs ∧ xs.length = i⟩
theorem walk_enumT {K : PySem.W.Frag} {a : Addr} {xs : List V} : Walk (IteT K a) xs.length (fun H => SqT K H a xs) (YPair (fun i => some (.int (i : Nat))) (fun i => xs[i]?)) := by
  refine ⟨fun i _ hi q => ⟨xs, xs[i], q, by simp [hi]⟩, fun _ q => ⟨xs, q, rfl⟩, fun i H v H' _ q y => ?_⟩
  obtain ⟨T, x, h1, h2, h3, h4⟩ := y
  exact ⟨T, .int (i : Nat), x, h1, h2, h3, rfl, h4 xs q⟩
theorem turn_enumT {P : Program} {w : World} {K : PySem.W.Frag} {elts : List Expr} {kk : Nat} {tpos : Pos} (a e it : Addr) :
    Turn P w K (.Tuple elts kk tpos) (IteT K a) [e, it] e (fun i h => (∃ old, IsEnum h e it ((i : Nat) : Int) old) ∧ h.IsTupleIter it a i ∧ e ≠ it) where
  mem := by simp
  obj := fun i h st b hb => by
    obtain ⟨⟨old, he⟩, ⟨o, ho, hc, hd⟩, _⟩ := st
    have e' : b = e ∨ b = it := by simpa using hb
    rcases e' with z | z
    · rw [z]; exact ⟨_, he, fun v q => nomatch q⟩
    · rw [z]; exact ⟨o, ho, fun v q => by rw [hd] at q; cases q⟩
  keep := fun i h h' st k => let ⟨⟨old, he⟩, hi, hne⟩ := st; ⟨⟨old, k e (by simp) _ he⟩, hi.at fun o q => k it (by simp) o q, hne⟩
  item := by
    intro X hP hw hK hc i pins s σ H E I hf st hg
    subst hP hw hK
    obtain ⟨⟨old, he⟩, hit, hne⟩ := st
    obtain ⟨xs, x, hq, hx⟩ := hg
    obtain ⟨its, rv, p, hz⟩ := I.tuple hq
    have pt : s.heap.IsTuple a its.toArray := p
    obtain ⟨u, hu, ru⟩ := rv.get hx
    have hel : e < s.heap.objs.size := Heap.lt_size he
    have hil : it < s.heap.objs.size := by obtain ⟨_, q, _⟩ := hit; exact Heap.lt_size q
    have nai : a ≠ it := fun z => by
      obtain ⟨o1, q1, c1, _⟩ := hit
      obtain ⟨o2, q2, c2, _⟩ := pt
      rw [z, q1] at q2
      cases q2
      rw [c1] at c2
      exact absurd c2 (by simp)
    have nae : e ≠ a := fun z => by
      obtain ⟨o2, q2, c2, _⟩ := pt
      rw [← z] at q2
      have he' : s.heap.get? e = some _ := he
      rw [he'] at q2
      cases q2
      exact absurd c2 (by simp)
    have hlt : i < its.toArray.size := by
      have q := (List.getElem?_eq_some_iff.mp hu).1
      simpa using q
    refine wpAny_pyNext_enum_itemC (Draws.tuple (A := X.A.in1) (I.ok.hd hc) it a nai its.toArray) he ⟨hit, pt⟩ hlt hne (by simp [hne, nae]) fun y h' tk hPy ho hst' hT hsz hk => ?_
    have hy : y = u := by
      have q : its.toArray[i]? = some u := by simpa using hu
      have q2 : its.toArray[i]? = some y := hPy
      rw [q] at q2
      exact (Option.some.inj q2).symm
    subst hy
    refine ⟨_, rfl, wpAny_letOwnedTupleGo_enum (s := { s with heap := h', toks := tk + 1 }) ho fun h'' he' sb => ?_⟩
    have hT2 : h''.get? s.heap.objs.size = some { cls := .type "tuple", data := .seq #[.int i tk, y] } := (sb.2 _ (Nat.ne_of_gt hel)).trans hT
    have new : ObjOk X.prog X.w (upd H s.heap.objs.size (.tup [.int (i : Nat), x])) h'' s.heap.objs.size (.tup [.int (i : Nat), x]) :=
      ⟨by show 2 ≤ sizeLine; decide, [.int i tk, y], .cons ⟨_, rfl⟩ (.cons ru .nil), ⟨_, hT2, rfl, _, rfl⟩⟩
    have I1 : Inv X pins σ (upd H s.heap.objs.size (.tup [.int (i : Nat), x])) { s with heap := h'', toks := tk + 1 } :=
      I.turnedNew (ch := [e, it]) (fun b ob hb q => (sb.2 b (fun z => hb (by simp [z]))).trans (hk b ob (fun z => hb (by simp [z])) (fun z => hb (by simp [z])) q)) hf (Nat.le_refl _) new
    refine ⟨.ref s.heap.objs.size, _, I1, rfl, ⟨_, x, rfl, I.hok.fresh (Nat.le_refl _), rfl, fun ys hy => by rw [I.tuple_inj hy hq]; exact hx⟩, ⟨⟨y, ?_⟩, hst'.1.at fun o q => (sb.2 it (Ne.symm hne)).trans q, hne⟩, fun b hb => ?_⟩
    · have e1 : ((i + 1 : Nat) : Int) = (i : Int) + 1 := by omega
      rw [e1]; exact he'
    · have hb' : b < s.heap.objs.size := by
        have e' : b = e ∨ b = it := by simpa using hb
        rcases e' with z | z
        · rw [z]; exact hel
        · rw [z]; exact hil
      rw [upd_ne (Nat.ne_of_lt hb')]
      exact (hf b hb).1
  done := by
    intro X hP hw hK hc i pins s σ H E I hf st hg
    subst hP hw hK
    obtain ⟨⟨old, he⟩, hit, hne⟩ := st
    obtain ⟨xs, hq, hx⟩ := hg
    obtain ⟨its, rv, p, hz⟩ := I.tuple hq
    have pt : s.heap.IsTuple a its.toArray := p
    have nai : a ≠ it := fun z => by
      obtain ⟨o1, q1, c1, _⟩ := hit
      obtain ⟨o2, q2, c2, _⟩ := pt
      rw [z, q1] at q2
      cases q2
      rw [c1] at c2
      exact absurd c2 (by simp)
    obtain ⟨f0, f1, f2, f3, f4, f5⟩ := hf it (by simp)
    have hl := rv.length
    have en : i = its.toArray.size := by
      rw [List.size_toArray]
      omega
    subst en
    exact wpAny_pyNext_enum_endD (Draws.tuple (A := X.A.in1) (I.ok.hd hc) it a nai its.toArray) he ⟨hit, pt⟩ fun h' eb => ⟨rfl, I.turned (t' := s.toks) (fun b o hb q => eb b o hb q) f0 f1 f3 f4 f5⟩
  self := fun A i s Q E st h => let ⟨⟨_, he⟩, _⟩ := st; wpAny_pyIter_enum he h
def iEnumT (K : PySem.W.Frag) (ta : TA) : TI := fun σ H R => ta σ H fun vs H1 => ∃ a xs, vs = [.ref a] ∧ SqT K H1 a xs ∧ R (IteT K a) H1
theorem pi_enumT {X : Cx} {e : Expr} {ta : TA} {p pos tpos : Pos} {elts : List Expr} {kk : Nat} (hg : Gl X "enumerate") (hm : X.mg "enumerate" = none) (ha : PA X [e] ta) (hs : starEach [e] X.env = [(false, eval e X.env)] := by rfl) :
    PI X (.Tuple elts kk tpos) (.Call (.Name "enumerate" p) [e] [] pos) (iEnumT X.K ta) := by
  refine ⟨fun pins s σ H R I h => ?_⟩
  refine Call_ (ld_blt I hg hm boot_enumerate (PyProof.Rows.callWith_type1 (thn (ha.run pos pins s σ H _ I h) fun us z hz => ?_) hs rfl))
  obtain ⟨vs, H1, I1, r1, a, xs, rfl, hq, q⟩ := hz
  cases r1 with
  | cons r rr =>
    cases rr
    cases r
    obtain ⟨its, rv, p', hz⟩ := I1.tuple hq
    refine enum_call (begins_tuple a its.toArray) (show z.heap.IsTuple a its.toArray from p') fun h' he hit hsz hk => wpAny_pyIter_enum he ?_
    have I2 : Inv X pins σ H1 { z with heap := h' } := I1.kept (t' := z.toks) hk
    refine ⟨z.heap.objs.size + 1, [z.heap.objs.size + 1, z.heap.objs.size], _, _, H1, rfl, I2, turn_enumT a (z.heap.objs.size + 1) z.heap.objs.size, ⟨⟨.none, he⟩, ⟨_, hit, rfl, rfl⟩, Nat.succ_ne_self _⟩, fun b hb => ?_, q⟩
    have e' : b = z.heap.objs.size + 1 ∨ b = z.heap.objs.size := by simpa using hb
    have hle : z.heap.objs.size ≤ b := by
      rcases e' with y | y
      · rw [y]; exact Nat.le_add_right _ _
      · rw [y]; exact Nat.le_refl _
    exact I1.fpOk hle (I1.hok.fresh hle)
end SoE

set_option Elab.async false
set_option linter.all false
set_option maxRecDepth 100000
set_option maxHeartbeats 4000000
namespace K6
open PySem PySem.Spec PyProof.Rows L2 So
/-- a sign -/
inductive Sg where
  | op (l : Str) | tx (t : Str) | cl
  deriving DecidableEq
def Sg.vs : Sg → List V
  | .op l => [.str "open", .str l]
  | .tx t => [.str "text", .str t]
  | .cl => [.str "close"]
def Sg.ok : Sg → Bool
  | .op l => isLab l && decide (l.length ≤ 12)
  | .tx t => decide (t.length ≤ 65535)
  | .cl => true
theorem sz12 {n : Nat} (h : n ≤ 12) : n ≤ sizeLine := Nat.le_trans h (by decide)
theorem sz65 {n : Nat} (h : n ≤ 65535) : n ≤ sizeLine := Nat.le_trans h (by decide)
theorem dstr {a b : Str} (h : decide (a = b) = false) : decide (V.str a = V.str b) = false := decide_eq_false fun q => of_decide_eq_false h (V.str.inj q)
/-! ### a row of signs -/
def Sg.d : Sg → Int
  | .op _ => 1
  | .tx _ => 0
  | .cl => -1
def lev : List Sg → Nat → Int → Sum Nat Int
  | [], _, l => .inr l
  | g :: r, i, l => if l + g.d < 0 then .inl i else lev r (i + 1) (l + g.d)
def SgV (K : PySem.W.Frag) (H : Hp) (v : V) (g : Sg) : Prop := ∃ q, v = .ref q ∧ SqT K H q g.vs
def RowAt (K : PySem.W.Frag) (H : Hp) (p : Addr) (xs : List V) (gs : List Sg) : Prop := SqT K H p xs ∧ Paired (SgV K H) xs gs ∧ gs.all Sg.ok = true ∧ gs.length ≤ 100000
theorem paired_get {α β : Type} {R : α → β → Prop} : ∀ {xs : List α} {ys : List β} {i : Nat} {x : α}, Paired R xs ys → xs[i]? = some x → ∃ y, ys[i]? = some y ∧ R x y
  | _, _, _, _, .nil, e => by simp at e
  | _, _, 0, _, .cons r _, e => by
    simp at e
    subst e
    exact ⟨_, rfl, r⟩
  | _, _, i + 1, x, .cons _ t, e => by
    obtain ⟨y, h1, h2⟩ := paired_get (i := i) (x := x) t (by simpa using e)
    exact ⟨y, by simpa using h1, h2⟩
theorem paired_mono {α β : Type} {R R' : α → β → Prop} (h : ∀ x y, R x y → R' x y) : ∀ {xs : List α} {ys : List β}, Paired R xs ys → Paired R' xs ys
  | _, _, .nil => .nil
  | _, _, .cons r t => .cons (h _ _ r) (paired_mono h t)
theorem sgs_mono {K : PySem.W.Frag} {P : Addr} {H H' : Hp} (t : GxR.TabG H P) (s : Sm P H H') {xs : List V} {gs : List Sg} (h : Paired (SgV K H) xs gs) : Paired (SgV K H') xs gs :=
  paired_mono (fun _ _ ⟨q, e, h⟩ => ⟨q, e, s.tup t h⟩) h
theorem RowAt.mono {K : PySem.W.Frag} {P : Addr} {H H' : Hp} {p : Addr} {xs : List V} {gs : List Sg} (t : GxR.TabG H P) (s : Sm P H H') (h : RowAt K H p xs gs) : RowAt K H' p xs gs :=
  ⟨s.tup t h.1, sgs_mono t s h.2.1, h.2.2⟩
theorem all_get {gs : List Sg} {i : Nat} {g : Sg} (h : gs.all Sg.ok = true) (e : gs[i]? = some g) : g.ok = true := List.all_eq_true.mp h g (List.mem_of_getElem? e)
theorem take_snoc {α : Type} {l : List α} {i : Nat} {x : α} (h : l[i]? = some x) : l.take (i + 1) = l.take i ++ [x] := by
  rw [List.take_add_one, h]
  rfl
theorem drop_at {α : Type} {l : List α} {i : Nat} {x : α} (h : l[i]? = some x) : l.drop i = x :: l.drop (i + 1) := by
  have hl := (List.getElem?_eq_some_iff.mp h)
  obtain ⟨h1, h2⟩ := hl
  rw [List.drop_eq_getElem_cons h1, h2]
theorem lev_at {gs : List Sg} {i : Nat} {g : Sg} {l : Int} (h : gs[i]? = some g) : lev (gs.drop i) i l = if l + g.d < 0 then .inl i else lev (gs.drop (i + 1)) (i + 1) (l + g.d) := by
  rw [drop_at h]
  rfl
/-! ### nodes -/
inductive Nd where
  | tx (t : Str)
  | el (l : Str) (ds : List Nd)
mutual
def ndD : Nd → PyData
  | .tx t => .tuple [.str "text", .str t]
  | .el l ds => .tuple [.str "element", .str l, .tuple (ndsD ds)]
def ndsD : List Nd → List PyData
  | [] => []
  | d :: r => ndD d :: ndsD r
end
mutual
def sgN : Nd → List Sg
  | .tx t => [.tx t]
  | .el l ds => .op l :: (sgs ds ++ [.cl])
def sgs : List Nd → List Sg
  | [] => []
  | d :: r => sgN d ++ sgs r
end
theorem ndsD_append : ∀ a b : List Nd, ndsD (a ++ b) = ndsD a ++ ndsD b
  | [], _ => rfl
  | x :: a, b => by
    show ndD x :: ndsD (a ++ b) = ndD x :: ndsD a ++ ndsD b
    rw [ndsD_append a b]
    rfl
theorem sgs_append : ∀ a b : List Nd, sgs (a ++ b) = sgs a ++ sgs b
  | [], _ => rfl
  | x :: a, b => by
    show sgN x ++ sgs (a ++ b) = sgN x ++ sgs a ++ sgs b
    rw [sgs_append a b, List.append_assoc]
/-! ### what keeps tuples -/
def Tp (H H' : Hp) : Prop := ∀ b xs, Rd H b (.tup xs) → Rd H' b (.tup xs)
theorem Tp.refl (H : Hp) : Tp H H := fun _ _ h => h
theorem Tp.trans {H H1 H2 : Hp} (a : Tp H H1) (b : Tp H1 H2) : Tp H H2 := fun x y h => b x y (a x y h)
theorem Tp.sm {P : Addr} {H H' : Hp} (t : GxR.TabG H P) (s : Sm P H H') : Tp H H' := fun b xs h => by
  rcases h with h | ⟨o, h⟩
  · exact .inl (s.1 _ _ (tab_tup t h (fun _ q => nomatch q)) h)
  · exact .inr ⟨o, s.1 _ _ (tab_tup t h (fun _ q => nomatch q)) h⟩
theorem Tp.new {H : Hp} {p : Addr} {o : HO} (h : H p = none) : Tp H (upd H p o) := fun b xs r => by
  rcases r with r | ⟨u, r⟩
  · exact .inl (by rw [upd_ne (ne_of_none r h)]; exact r)
  · exact .inr ⟨u, by rw [upd_ne (ne_of_none r h)]; exact r⟩
theorem Tp.lst {H : Hp} {p : Addr} {o : HO} {ys : List V} (h : H p = some (.lst ys)) : Tp H (upd H p o) := fun b xs r => by
  rcases r with r | ⟨u, r⟩
  · exact .inl (by rw [upd_ne (ne_of r h (fun q => nomatch q))]; exact r)
  · exact .inr ⟨u, by rw [upd_ne (ne_of r h (fun q => nomatch q))]; exact r⟩
section
variable {K : PySem.W.Frag} {H H' : Hp}
theorem Tp.sq {a : Addr} {xs : List V} (s : Tp H H') (h : SqT K H a xs) : SqT K H' a xs := by
  rcases h with h | h
  · exact .inl (s _ _ h)
  · exact .inr h
theorem dp_str {v : V} {z : Str} (h : Dp K H v (.str z)) : v = .str z := by
  cases h
  rfl
theorem dp_tup {v : V} {ds : List PyData} (h : Dp K H v (.tuple ds)) : ∃ a xs, v = .ref a ∧ SqT K H a xs ∧ DpAll K H xs ds := by
  cases h with
  | tup h1 h2 => exact ⟨_, _, rfl, h1, h2⟩
theorem all_nil' {xs : List V} (h : DpAll K H xs []) : xs = [] := by
  cases h
  rfl
theorem all_cons' {xs : List V} {d : PyData} {ds : List PyData} (h : DpAll K H xs (d :: ds)) : ∃ v vs, xs = v :: vs ∧ Dp K H v d ∧ DpAll K H vs ds := by
  cases h with
  | cons h1 h2 => exact ⟨_, _, rfl, h1, h2⟩
theorem all_append : ∀ {xs ys : List V} {ds es : List PyData}, DpAll K H xs ds → DpAll K H ys es → DpAll K H (xs ++ ys) (ds ++ es)
  | [], _, _, _, .nil, h => h
  | _ :: _, _, _, _, .cons a b, h => .cons a (all_append b h)
theorem all_length : ∀ {xs : List V} {ds : List PyData}, DpAll K H xs ds → xs.length = ds.length
  | [], _, .nil => rfl
  | _ :: _, _, .cons _ b => congrArg (· + 1) (all_length b)
theorem ndsD_length : ∀ ds : List Nd, (ndsD ds).length = ds.length
  | [] => rfl
  | _ :: r => congrArg (· + 1) (ndsD_length r)
theorem nd_tx {v : V} {z : Str} (h : Dp K H v (ndD (.tx z))) : ∃ a, v = .ref a ∧ SqT K H a [.str "text", .str z] := by
  obtain ⟨a, xs, rfl, h1, h2⟩ := dp_tup (show Dp K H v (.tuple [.str "text", .str z]) by simpa only [ndD] using h)
  obtain ⟨v1, r1, rfl, d1, h3⟩ := all_cons' h2
  obtain ⟨v2, r2, rfl, d2, h4⟩ := all_cons' h3
  cases dp_str d1
  cases dp_str d2
  cases all_nil' h4
  exact ⟨a, rfl, h1⟩
theorem nd_el {v : V} {l : Str} {ds : List Nd} (h : Dp K H v (ndD (.el l ds))) : ∃ a b ys, v = .ref a ∧ SqT K H a [.str "element", .str l, .ref b] ∧ SqT K H b ys ∧ DpAll K H ys (ndsD ds) := by
  obtain ⟨a, xs, rfl, h1, h2⟩ := dp_tup (show Dp K H v (.tuple [.str "element", .str l, .tuple (ndsD ds)]) by simpa only [ndD] using h)
  obtain ⟨v1, r1, rfl, d1, h3⟩ := all_cons' h2
  obtain ⟨v2, r2, rfl, d2, h4⟩ := all_cons' h3
  obtain ⟨v3, r3, rfl, d3, h5⟩ := all_cons' h4
  cases dp_str d1
  cases dp_str d2
  cases all_nil' h5
  obtain ⟨b, ys, rfl, h6, h7⟩ := dp_tup d3
  exact ⟨a, b, ys, rfl, h1, h6, h7⟩
theorem nd_tx_mk {a : Addr} {z : Str} (h : SqT K H a [.str "text", .str z]) : Dp K H (.ref a) (ndD (.tx z)) := by
  rw [ndD]
  exact .tup h (.cons (.str _) (.cons (.str _) .nil))
theorem nd_el_mk {a b : Addr} {l : Str} {ds : List Nd} {ys : List V} (h : SqT K H a [.str "element", .str l, .ref b]) (h2 : SqT K H b ys) (h3 : DpAll K H ys (ndsD ds)) : Dp K H (.ref a) (ndD (.el l ds)) := by
  rw [ndD]
  exact .tup h (.cons (.str _) (.cons (.str _) (.cons (.tup h2 h3) .nil)))
mutual
theorem nd_tp (s : Tp H H') : ∀ (d : Nd) (v : V), Dp K H v (ndD d) → Dp K H' v (ndD d)
  | .tx z, v, h => by
    obtain ⟨a, rfl, h1⟩ := nd_tx h
    exact nd_tx_mk (s.sq h1)
  | .el l ds, v, h => by
    obtain ⟨a, b, ys, rfl, h1, h2, h3⟩ := nd_el h
    exact nd_el_mk (s.sq h1) (s.sq h2) (nds_tp s ds ys h3)
theorem nds_tp (s : Tp H H') : ∀ (ds : List Nd) (vs : List V), DpAll K H vs (ndsD ds) → DpAll K H' vs (ndsD ds)
  | [], vs, h => by
    rw [ndsD] at h ⊢
    cases all_nil' h
    exact .nil
  | d :: r, vs, h => by
    rw [ndsD] at h ⊢
    obtain ⟨v, vs', rfl, h1, h2⟩ := all_cons' h
    exact .cons (nd_tp s d v h1) (nds_tp s r vs' h2)
end
end
/-! ### frames: the lists that are open, the innermost first -/
def Frs (K : PySem.W.Frag) (H : Hp) (n : Nat) : List (Addr × List V) → List (List Nd) → Prop :=
  Paired fun f r => H f.1 = some (.lst f.2) ∧ DpAll K H f.2 (ndsD r) ∧ f.2.length ≤ n
def adr (fr : List (Addr × List V)) : List Addr := fr.map (·.1)
def refs (fr : List (Addr × List V)) : List V := (fr.map fun f => V.ref f.1).reverse
theorem refs_cons (f : Addr × List V) (fr : List (Addr × List V)) : refs (f :: fr) = refs fr ++ [V.ref f.1] := by
  unfold refs
  rw [List.map_cons, List.reverse_cons]
theorem refs_len (fr : List (Addr × List V)) : (refs fr).length = fr.length := by
  unfold refs
  simp
theorem Frs.mono {K : PySem.W.Frag} {H H' : Hp} {n m : Nat} (tp : Tp H H') (hn : n ≤ m) : ∀ {fr : List (Addr × List V)} {rows : List (List Nd)}, (∀ f ∈ fr, H' f.1 = H f.1) → Frs K H n fr rows → Frs K H' m fr rows
  | _, _, _, .nil => .nil
  | f :: _, _, h, .cons a b => .cons ⟨by rw [h f (List.mem_cons_self ..)]; exact a.1, nds_tp tp _ _ a.2.1, Nat.le_trans a.2.2 hn⟩ (Frs.mono tp hn (fun x hx => h x (List.mem_cons_of_mem _ hx)) b)
theorem Frs.len {K : PySem.W.Frag} {H : Hp} {n : Nat} {fr : List (Addr × List V)} {rows : List (List Nd)} (h : Frs K H n fr rows) : fr.length = rows.length := Paired.length h
theorem pop_last {α : Type} (xs : List α) (y : α) : (xs ++ [y])[(xs ++ [y]).length - 1]? = some y := by
  simp
theorem ne_mem {α : Type} {a : α} {xs : List α} (h : a ∉ xs) {b : α} (hb : b ∈ xs) : b ≠ a := fun e => h (e ▸ hb)
def isTx : Nd → Bool
  | .tx _ => true
  | .el _ _ => false
theorem sgok_op {l : Str} (h : Sg.ok (.op l) = true) : isLab l = true ∧ l.length ≤ 12 := by
  have q : (isLab l && decide (l.length ≤ 12)) = true := h
  rw [Bool.and_eq_true] at q
  exact ⟨q.1, of_decide_eq_true q.2⟩
theorem sgok_tx {z : Str} (h : Sg.ok (.tx z) = true) : z.length ≤ 65535 := of_decide_eq_true h
section
variable {Pg : Program} {w : World} {K : PySem.W.Frag} {mg : Str → Option Value} {base : Heap} {P : Addr}
/-! ### _is_text_node -/
abbrev sItn : Stmt := top 15
theorem scItn : FnScope ["value"] ["value"] (defScope sItn) := ⟨rfl, rfl, rfl, by decide +kernel, rfl, by decide +kernel, by decide +kernel⟩
def spItn (K : PySem.W.Frag) (P : Addr) : Sp := Pu P fun vs H R => ∃ (v : V) (d : Nd), vs = [v] ∧ Dp K H v (ndD d) ∧ (sgN d).all Sg.ok = true ∧ R = fun v _ => v = .bl (isTx d)
theorem ok_itn {f fS fR fT : Addr} {fd fdS fdR fdT : FuncData} (F : Fun K "_is_text_node" "_is_text_node" sItn f fd) (T : Tx K mg)
    (S : Df K mg "is_sequence" sSeq ["value"] fS fdS) (R : Df K mg "is_row_of" sRow ["value", "many"] fR fdR) (X : Df K mg "is_text" sTxt ["value"] fT fdT) : FnOk Pg w K mg base CX0 3 f fd ["value"] (spItn K P) := by
  have GR : FnOk Pg w K mg base CX0 2 fR fdR ["value", "many"] (spRow K P) := ok_row R.F T S
  have GX : FnOk Pg w K mg base CX0 1 fT fdT ["value"] (spTxt P) := ok_txt X.F T
  refine F.ok scItn (fun vs H Q E h => ?_) (fun cdv A outer s H vs Q E hr h => ?_)
  · obtain ⟨_, _, ⟨_, _, rfl, _⟩, _⟩ := h
    rfl
  · obtain ⟨t, _, ⟨v, d, rfl, hd, hok, rfl⟩, k⟩ := h
    refine ⟨_, pss_one (ps_ret (pe_and (pe_call GR hr (by rfl) R.g R.F.kp R.b .nil pass0 (pa_cons (pv 0) (pa_cons pe_int pa_nil)))
      (pe_and (pe_cmpR op_eq (pe_ix ix_tup (pv 0) pe_int (fun _ _ => rfl)) pe_str (nomark _)) (pe_one (pe_call GX (hr.mono (by decide)) (by rfl) X.g X.F.kp X.b .nil pass0 (pa_cons (pe_ix ix_tup (pv 0) pe_int (fun _ _ => rfl)) pa_nil)))))), ?_⟩
    cases d with
    | tx z =>
      obtain ⟨a, rfl, ha⟩ := nd_tx hd
      have hz : z.length ≤ 65535 := sgok_tx (by simpa [sgN] using hok)
      refine ⟨_, rfl, t, _, ⟨a, _, _, rfl, ha, rfl⟩, fun v H1 s1 e => ⟨true, e, iteT ?_⟩⟩
      refine ⟨_, rfl, a, _, _, _, rfl, rfl, s1.tup t ha, atI_nat (j := 0) rfl, rfl, true, rfl, iteT ?_⟩
      refine ⟨_, rfl, a, _, _, _, rfl, rfl, s1.tup t ha, atI_nat (j := 1) rfl, s1.2, _, ⟨z, rfl, sz65 hz, rfl⟩, fun v H2 s2 e2 => ?_⟩
      exact k _ _ (s1.trans s2) (by rw [e2, decide_eq_true (by omega)]; rfl)
    | el l ds =>
      obtain ⟨a, b, ys, rfl, ha, hb, hc⟩ := nd_el hd
      refine ⟨_, rfl, t, _, ⟨a, _, _, rfl, ha, rfl⟩, fun v H1 s1 e => ⟨false, e, iteF ?_⟩⟩
      exact k _ _ s1 rfl
/-! ### _is_element_node, of an element -/
abbrev sIen' : Stmt := top 16
theorem scIel : FnScope ["value"] ["value"] (defScope sIen') := ⟨rfl, rfl, rfl, by decide +kernel, rfl, by decide +kernel, by decide +kernel⟩
def spIel (K : PySem.W.Frag) (P : Addr) : Sp := Pu P fun vs H R => ∃ (v : V) (l : Str) (ds : List Nd), vs = [v] ∧ Dp K H v (ndD (.el l ds)) ∧ Sg.ok (.op l) = true ∧ R = fun v _ => v = .bl true
theorem ok_iel {f fS fR fL c : Addr} {fd fdS fdR fdL : FuncData} (F : Fun K "_is_element_node" "_is_element_node" sIen' f fd) (T : Tx K mg) (TB : GxR.TabB base mg c P)
    (S : Df K mg "is_sequence" sSeq ["value"] fS fdS) (R : Df K mg "is_row_of" sRow ["value", "many"] fR fdR) (L : DfC K mg "is_label" sLab ["value"] fL fdL c) : FnOk Pg w K mg base CX0 3 f fd ["value"] (spIel K P) := by
  have GR : FnOk Pg w K mg base CX0 2 fR fdR ["value", "many"] (spRow K P) := ok_row R.F T S
  have GS : FnOk Pg w K mg base CX0 1 fS fdS ["value"] (spSeq K P) := ok_seq S.F T
  have GL : FnOk Pg w K mg base CX0 1 fL fdL ["value"] (spLab P) := ok_lab L T TB
  refine F.ok scIel (fun vs H Q E h => ?_) (fun cdv A outer s H vs Q E hr h => ?_)
  · obtain ⟨_, _, ⟨_, _, _, rfl, _⟩, _⟩ := h
    rfl
  · obtain ⟨t, _, ⟨v, l, ds, rfl, hd, hok, rfl⟩, k⟩ := h
    have hr1 : Room 1 _ := hr.mono (by decide)
    refine ⟨_, pss_one (ps_ret (pe_and (pe_call GR hr (by rfl) R.g R.F.kp R.b .nil pass0 (pa_cons (pv 0) (pa_cons pe_int pa_nil)))
      (pe_and (pe_cmpR op_eq (pe_ix ix_tup (pv 0) pe_int (fun _ _ => rfl)) pe_str (nomark _))
      (pe_and (pe_call GL hr1 (by rfl) L.g L.kp L.b .nil pass0 (pa_cons (pe_ix ix_tup (pv 0) pe_int (fun _ _ => rfl)) pa_nil))
      (pe_one (pe_call GS hr1 (by rfl) S.g S.F.kp S.b .nil pass0 (pa_cons (pe_ix ix_tup (pv 0) pe_int (fun _ _ => rfl)) pa_nil))))))), ?_⟩
    obtain ⟨a, b, ys, rfl, ha, hb, hc⟩ := nd_el hd
    obtain ⟨hl1, hl2⟩ := sgok_op hok
    refine ⟨_, rfl, t, _, ⟨a, _, _, rfl, ha, rfl⟩, fun v H1 s1 e => ⟨true, e, iteT ?_⟩⟩
    refine ⟨_, rfl, a, _, _, _, rfl, rfl, s1.tup t ha, atI_nat (j := 0) rfl, rfl, true, rfl, iteT ?_⟩
    refine ⟨_, rfl, a, _, _, _, rfl, rfl, s1.tup t ha, atI_nat (j := 1) rfl, s1.2, _, ⟨l, rfl, sz12 hl2, rfl⟩, fun v H2 s2 e2 => ⟨true, by rw [e2, hl1], iteT ?_⟩⟩
    have s3 := s1.trans s2
    refine ⟨_, rfl, a, _, _, _, rfl, rfl, s3.tup t ha, atI_nat (j := 2) rfl, s3.2, _, ⟨b, ys, rfl, s3.tup t hb, rfl⟩, fun v H3 s4 e3 => ?_⟩
    exact k _ _ (s3.trans s4) e3
end
/-! ### the mirror of signs_of -/
def rest : List (List Nd) → List Sg
  | [] => []
  | [w] => sgs w
  | w :: x :: ws => sgs w ++ .cl :: rest (x :: ws)
mutual
def cntN : Nd → Nat
  | .tx _ => 1
  | .el _ ds => cntS ds + 1
def cntS : List Nd → Nat
  | [] => 0
  | d :: r => cntN d + cntS r
end
def cntW : List (List Nd) → Nat
  | [] => 0
  | w :: ws => cntS w + cntW ws
theorem rest_nil {x : List Nd} {ws : List (List Nd)} : rest ([] :: x :: ws) = .cl :: rest (x :: ws) := by
  simp [rest, sgs]
theorem rest_tx {z : Str} {w : List Nd} {ws : List (List Nd)} : rest ((.tx z :: w) :: ws) = .tx z :: rest (w :: ws) := by
  cases ws <;> simp [rest, sgs, sgN]
theorem rest_el {l : Str} {ds w : List Nd} {ws : List (List Nd)} : rest ((.el l ds :: w) :: ws) = .op l :: rest (ds :: w :: ws) := by
  cases ws <;> simp [rest, sgs, sgN]
theorem cnt_tx {z : Str} {w : List Nd} {ws : List (List Nd)} : cntW (w :: ws) < cntW ((.tx z :: w) :: ws) := by
  simp [cntW, cntS, cntN] <;> omega
theorem cnt_el {l : Str} {ds w : List Nd} {ws : List (List Nd)} : cntW (ds :: w :: ws) < cntW ((.el l ds :: w) :: ws) := by
  simp [cntW, cntS, cntN] <;> omega
end K6

set_option Elab.async false
set_option linter.all false
set_option maxRecDepth 100000
set_option maxHeartbeats 4000000
namespace K6
open PySem PySem.Spec PyProof.Rows L2 So
def Wrs (K : PySem.W.Frag) (H0 H : Hp) : List (Addr × List V) → List (List Nd) → Prop := Paired fun f w => H f.1 = some (.lst f.2.reverse) ∧ DpAll K H0 f.2 (ndsD w)
theorem Wrs.mono {K : PySem.W.Frag} {H0 H H' : Hp} : ∀ {fr : List (Addr × List V)} {ws : List (List Nd)}, (∀ f ∈ fr, H' f.1 = H f.1) → Wrs K H0 H fr ws → Wrs K H0 H' fr ws
  | _, _, _, .nil => .nil
  | f :: _, _, h, .cons a b => .cons ⟨by rw [h f (List.mem_cons_self ..)]; exact a.1, a.2⟩ (Wrs.mono (fun x hx => h x (List.mem_cons_of_mem _ hx)) b)
/-- between two nodes: S the list of signs, W that of what waits -/
structure WInv (K : PySem.W.Frag) (P : Addr) (H0 H : Hp) (S W : Addr) (fr : List (Addr × List V)) (ws : List (List Nd)) (out whole : List Sg) (outs : List V) : Prop where
  sm : Sm P H0 H
  hS : H S = some (.lst outs)
  os : Paired (SgV K H) outs out
  hW : H W = some (.lst (refs fr))
  wr : Wrs K H0 H fr ws
  nd : (S :: W :: adr fr).Nodup
  nw : ∀ a ∈ S :: W :: adr fr, H0 a = none ∧ a ≠ P
  eq : out ++ rest ws = whole
  le : fr.length ≤ out.length + 1
theorem sgs_tp {K : PySem.W.Frag} {H H' : Hp} (s : Tp H H') {xs : List V} {gs : List Sg} (h : Paired (SgV K H) xs gs) : Paired (SgV K H') xs gs :=
  paired_mono (fun _ _ ⟨q, e, h⟩ => ⟨q, e, s.sq h⟩) h
theorem paired_append {α β : Type} {R : α → β → Prop} : ∀ {xs xs' : List α} {ys ys' : List β}, Paired R xs ys → Paired R xs' ys' → Paired R (xs ++ xs') (ys ++ ys')
  | [], _, _, _, .nil, h => h
  | _ :: _, _, _, _, .cons a b, h => .cons a (paired_append b h)
section
variable {Pg : Program} {w : World} {K : PySem.W.Frag} {mg : Str → Option Value} {base : Heap} {P : Addr}
abbrev sSig : Stmt := top 17
theorem scSig : FnScope ["document", "signs", "many", "waiting", "node"] ["document"] (defScope sSig) := ⟨rfl, rfl, rfl, by decide +kernel, rfl, by decide +kernel, by decide +kernel⟩
def spSig (K : PySem.W.Frag) (P : Addr) : Sp := Pu P fun vs H R => ∃ (a : Addr) (xs : List V) (ds : List Nd), vs = [.ref a] ∧ SqT K H a xs ∧ DpAll K H xs (ndsD ds) ∧ (sgs ds).all Sg.ok = true ∧ (sgs ds).length ≤ 1000 ∧ R = fun v H' => ∃ q ys, v = .ref q ∧ RowAt K H' q ys (sgs ds)
theorem ok_sig {f fS fX fE : Addr} {fd fdS fdX fdE : FuncData} (F : Fun K "signs_of" "signs_of" sSig f fd) (T : Tx K mg) (S : Df K mg "is_sequence" sSeq ["value"] fS fdS)
    (X : Df K mg "_is_text_node" sItn ["value"] fX fdX) (GX : FnOk Pg w K mg base CX0 3 fX fdX ["value"] (spItn K P))
    (L : Df K mg "_is_element_node" sIen' ["value"] fE fdE) (GL : FnOk Pg w K mg base CX0 3 fE fdE ["value"] (spIel K P)) : FnOk Pg w K mg base CX0 4 f fd ["document"] (spSig K P) := by
  have GS : FnOk Pg w K mg base CX0 1 fS fdS ["value"] (spSeq K P) := ok_seq S.F T
  refine F.ok scSig (fun vs H Q E h => ?_) (fun cdv A outer s H vs Q E hr h => ?_)
  · obtain ⟨_, _, ⟨_, _, _, rfl, _⟩, _⟩ := h
    rfl
  · obtain ⟨t, _, ⟨a, xs, ds, rfl, hx, hds, hok, hlen, rfl⟩, k⟩ := h
    have hr1 : Room 1 _ := hr.mono (by decide)
    refine ⟨_, pss_cons (ps_if (pt_not (pt_val (pe_call GS hr1 (by rfl) S.g S.F.kp S.b .nil pass0 (pa_cons (pv 0) pa_nil)))) pss_never pss_nil)
      (pss_cons (ps_set (i := 1) scSig.nd rfl (Or.inl rfl) (pe_lst pa_nil))
      (pss_cons (ps_set (i := 2) scSig.nd rfl (Or.inl rfl) pe_int)
      (pss_cons (ps_set (i := 3) scSig.nd rfl (Or.inl rfl) (pe_lst (pa_cons (SoRv.pe_lstRev rfl (by rfl) T.list (by rfl) T.reversed (pv 0)) pa_nil)))
      (pss_one (ps_while PassesOwn.never (pt_val pe_bl)
        (pss_cons (ps_while PassesOwn.never (pt_cmpR op_eq (pe_callB call_len_seq (by rfl) T.len (by decide +kernel) (pa_cons (pe_ix ix_list (pv 3) (pe_un un_neg pe_int) (fun _ _ => rfl)) pa_nil)) pe_int (nomark _))
            (pss_cons (ps_expr (pe_bm0 PySem.F.plainAttrs_list PySem.F.slot_list_pop PySem.F.type_list_pop mt_pop (pv 3)))
            (pss_cons (ps_if (pt_cmpR op_eq (pe_callB call_len_seq (by rfl) T.len (by decide +kernel) (pa_cons (pv 3) pa_nil)) pe_int (nomark _)) (pss_one (ps_ret (pe_tupleOf (by rfl) T.tuple (pv 1)))) pss_nil)
            (pss_one (ps_expr (pe_bm PySem.F.plainAttrs_list PySem.F.slot_list_append PySem.F.type_list_append mt_append (pv 1) (pa_cons (pe_tup (pa_cons pe_str pa_nil)) pa_nil)))))))
        (pss_cons (ps_set (i := 4) scSig.nd rfl (Or.inl rfl) (pe_bm0 PySem.F.plainAttrs_list PySem.F.slot_list_pop PySem.F.type_list_pop mt_pop (pe_ix ix_list (pv 3) (pe_un un_neg pe_int) (fun _ _ => rfl))))
        (pss_cons (ps_if (pt_val (pe_call GX hr (by rfl) X.g X.F.kp X.b .nil pass0 (pa_cons (pv 4) pa_nil)))
            (pss_one (ps_expr (pe_bm PySem.F.plainAttrs_list PySem.F.slot_list_append PySem.F.type_list_append mt_append (pv 1) (pa_cons (pe_tup (pa_cons pe_str (pa_cons (pe_ix ix_tup (pv 4) pe_int (fun _ _ => rfl)) pa_nil))) pa_nil))))
            (pss_one (ps_if (pt_val (pe_call GL hr (by rfl) L.g L.F.kp L.b .nil pass0 (pa_cons (pv 4) pa_nil)))
              (pss_cons (ps_expr (pe_bm PySem.F.plainAttrs_list PySem.F.slot_list_append PySem.F.type_list_append mt_append (pv 1) (pa_cons (pe_tup (pa_cons pe_str (pa_cons (pe_ix ix_tup (pv 4) pe_int (fun _ _ => rfl)) pa_nil))) pa_nil)))
                (pss_one (ps_expr (pe_bm PySem.F.plainAttrs_list PySem.F.slot_list_append PySem.F.type_list_append mt_append (pv 3) (pa_cons (SoRv.pe_lstRev rfl (by rfl) T.list (by rfl) T.reversed (pe_ix ix_tup (pv 4) pe_int (fun _ _ => rfl))) pa_nil)))))
              pss_never)))
        (pss_one (ps_aug (i := 2) scSig.nd rfl (.inl rfl) pe_int ip_add)))))))))), ?_⟩
    have small : ∀ {n : Nat}, n ≤ 1002 → n < sizeLine := fun h => Nat.lt_of_le_of_lt h (by decide)
    refine ⟨_, rfl, t, _, ⟨a, xs, rfl, hx, rfl⟩, fun v H1 s1 e => ⟨true, e, iteF ?_⟩⟩
    refine ⟨Nat.zero_le _, fun S hS => ?_⟩
    have s2 : Sm P H (upd H1 S (.lst [])) := s1.trans (Sm.new s1.2 hS)
    refine ⟨_, rfl, a, xs, rfl, s2.tup t hx, fun A1 hA1 => ⟨(by show 1 ≤ sizeLine; decide), fun W hW => ?_⟩⟩
    have s3 := s2.trans (Sm.new (o := .lst xs.reverse) s2.2 hA1)
    have s4 := s3.trans (Sm.new (o := .lst [.ref A1]) s3.2 hW)
    have nP : ∀ {H' : Hp} {a : Addr}, GxR.TabG H' P → H' a = none → a ≠ P := fun t e z => by
      obtain ⟨ps, q, _⟩ := t
      rw [z, q] at e
      cases e
    have nSA : S ≠ A1 := ne_of_none upd_same hA1
    have nAW : A1 ≠ W := ne_of_none upd_same hW
    have nSW : S ≠ W := ne_of_none (o := .lst []) (by rw [upd_ne nSA, upd_same]) hW
    have start : WInv K P H (upd (upd (upd H1 S (.lst [])) A1 (.lst xs.reverse)) W (.lst [.ref A1])) S W [(A1, xs)] [ds] [] (sgs ds) [] := {
      sm := s4
      hS := by rw [upd_ne nSW, upd_ne nSA, upd_same]
      os := .nil
      hW := upd_same
      wr := .cons ⟨by rw [upd_ne nAW, upd_same], hds⟩ .nil
      nd := by simp [adr, nSW, nSA, nAW.symm]
      nw := fun b hb => by
        have : b = S ∨ b = W ∨ b = A1 := by simpa [adr] using hb
        rcases this with z | z | z
        · rw [z]; exact ⟨s1.free t hS, nP s1.2 hS⟩
        · rw [z]; exact ⟨s3.free t hW, nP s3.2 hW⟩
        · rw [z]; exact ⟨s2.free t hA1, nP s2.2 hA1⟩
      eq := rfl
      le := Nat.le_refl _ }
    refine ⟨fun m σ H' => ∃ (fr : List (Addr × List V)) (ws : List (List Nd)) (out : List Sg) (outs : List V) (mn : Int) (v4 : Option V), σ = [some (.ref a), some (.ref S), some (.int mn), some (.ref W), v4] ∧ WInv K P H H' S W fr ws out (sgs ds) outs ∧ ws ≠ [] ∧ m = cntW ws,
      ⟨_, [(A1, xs)], [ds], [], [], 0, none, rfl, start, by simp, rfl⟩, ?_⟩
    rintro m σ H' ⟨fr, ws, out, outs, mn, v4, rfl, N, hne, rfl⟩
    refine ⟨true, rfl, iteT ?_⟩
    refine ⟨fun σ' H'' => ∃ (fr' : List (Addr × List V)) (ws' : List (List Nd)) (out' : List Sg) (outs' : List V) (mn : Int) (v4 : Option V), σ' = [some (.ref a), some (.ref S), some (.int mn), some (.ref W), v4] ∧ WInv K P H H'' S W fr' ws' out' (sgs ds) outs' ∧ ws' ≠ [] ∧ cntW ws' < cntW ws,
      fun σ' H'' ⟨fr', ws', out', outs', mn, v4, e1, N', h1, h2⟩ => ⟨cntW ws', h2, fr', ws', out', outs', mn, v4, e1, N', h1, rfl⟩, ?_⟩
    -- the inner while
    refine ⟨fun m σ H' => ∃ (fr' : List (Addr × List V)) (ws' : List (List Nd)) (out' : List Sg) (outs' : List V) (v4 : Option V), σ = [some (.ref a), some (.ref S), some (.int mn), some (.ref W), v4] ∧ WInv K P H H' S W fr' ws' out' (sgs ds) outs' ∧ ws' ≠ [] ∧ cntW ws' = cntW ws ∧ m = ws'.length,
      ⟨_, fr, ws, out, outs, v4, rfl, N, hne, rfl, rfl⟩, ?_⟩
    clear N hne
    rintro m σ H' ⟨fr, ws', out, outs, v4, rfl, N, hne, hcnt, rfl⟩
    have hwr := N.wr
    have hl : out.length ≤ 1000 := by
      have e := congrArg List.length N.eq
      rw [List.length_append] at e
      omega
    have lo : outs.length = out.length := Paired.length N.os
    obtain ⟨ndS, nd1⟩ := List.nodup_cons.mp N.nd
    obtain ⟨ndW, nda⟩ := List.nodup_cons.mp nd1
    have neSW : S ≠ W := fun z => ndS (by rw [z]; exact List.mem_cons_self ..)
    cases hwr with
    | nil => exact absurd rfl hne
    | @cons f w fr' ws'' hf hfr =>
      obtain ⟨f1, f2⟩ := hf
      obtain ⟨ndf, ndfr⟩ := List.nodup_cons.mp nda
      have nfS : f.1 ≠ S := fun z => ndS (by rw [← z]; exact List.mem_cons_of_mem _ (List.mem_cons_self ..))
      have nfW : f.1 ≠ W := fun z => ndW (by rw [← z]; exact List.mem_cons_self ..)
      have wS := N.nw S (by simp)
      have wW := N.nw W (by simp)
      have wf := N.nw f.1 (by simp [adr])
      have hlast : atI (refs (f :: fr')) (-1) = some (V.ref f.1) := by rw [refs_cons]; exact atI_last _ _
      have hW' : H' W = some (.lst (refs fr' ++ [V.ref f.1])) := by
        rw [← refs_cons]
        exact N.hW
      refine ⟨_, rfl, _, rfl, W, _, _, _, rfl, rfl, SqL.of N.hW, hlast, f.1, _, rfl, .inl (SqL.of f1), rfl, _, rfl, ?_⟩
      have sub2 : ∀ x ∈ fr', x.1 ∈ adr (f :: fr') := fun x hx => List.mem_cons_of_mem _ (List.mem_map_of_mem hx)
      have xS : ∀ x ∈ fr', x.1 ≠ S := fun x hx z => ndS (by rw [← z]; exact List.mem_cons_of_mem _ (sub2 x hx))
      have xW : ∀ x ∈ fr', x.1 ≠ W := fun x hx z => ndW (by rw [← z]; exact sub2 x hx)
      have ndf' : f.1 ∉ adr fr' := ndf
      have xf : ∀ x ∈ fr', x.1 ≠ f.1 := fun x hx z => ndf' (by rw [← z]; exact List.mem_map_of_mem hx)
      have xat : ∀ x ∈ fr', ∃ u, H' x.1 = some (.lst u) := fun x hx => by
        obtain ⟨j, hj⟩ := List.mem_iff_getElem?.mp hx
        obtain ⟨_, _, q1, _⟩ := paired_get hfr hj
        exact ⟨_, q1⟩
      cases w with
      | nil =>
        have e0 : f.2 = [] := by
          rw [ndsD] at f2
          exact all_nil' f2
        rw [e0]
        refine iteT ?_
        refine ⟨fun σ' H'' => ∃ (fr2 : List (Addr × List V)) (ws2 : List (List Nd)) (out2 : List Sg) (outs2 : List V) (v4 : Option V), σ' = [some (.ref a), some (.ref S), some (.int mn), some (.ref W), v4] ∧ WInv K P H H'' S W fr2 ws2 out2 (sgs ds) outs2 ∧ ws2 ≠ [] ∧ cntW ws2 = cntW ws ∧ ws2.length < ([] :: ws'').length,
          fun σ' H'' ⟨fr2, ws2, out2, outs2, v4, e1, N', h1, h2, h3⟩ => ⟨ws2.length, h3, fr2, ws2, out2, outs2, v4, e1, N', h1, h2, rfl⟩, ?_⟩
        refine ⟨_, rfl, .inl ⟨rfl, _, SqL.of hW'⟩, W, _, _, rfl, rfl, hW', pop_last _ _, ?_⟩
        rw [List.dropLast_concat]
        have hW2 : upd H' W (.lst (refs fr')) W = some (.lst (refs fr')) := upd_same
        have hS2 : upd H' W (.lst (refs fr')) S = some (.lst outs) := by
          rw [upd_ne neSW]
          exact N.hS
        have t2 : Tp H' (upd H' W (.lst (refs fr'))) := Tp.lst hW'
        have m2 : Sm P H (upd H' W (.lst (refs fr'))) := N.sm.mut wW.1 wW.2
        refine ⟨_, rfl, W, _, rfl, .inl (SqL.of hW2), rfl, _, rfl, ?_⟩
        cases hfr with
        | nil =>
          refine iteT ⟨_, rfl, .inl ⟨S, outs, rfl, SqL.of hS2, fun q hq => ?_⟩⟩
          have eo : out = sgs ds := by
            have := N.eq
            simp [rest, sgs] at this
            exact this
          refine k _ _ (m2.trans (Sm.new m2.2 hq)) ⟨q, outs, rfl, .inl (.inl upd_same), ?_, hok, by omega⟩
          rw [← eo]
          exact sgs_tp (t2.trans (Tp.new hq)) N.os
        | @cons f' w' fr'' ws3 hf' hfr' =>
          rw [show (decide (V.int (((refs (f' :: fr'')).length : Nat) : Int) = V.int 0)) = false from decide_eq_false (fun z => by
            have z' := V.int.inj z
            rw [refs_len, List.length_cons] at z'
            omega)]
          refine iteF ⟨_, rfl, .inl ⟨rfl, _, SqL.of hS2⟩, (by show 1 ≤ sizeLine; decide), fun T1 hT1 => ?_⟩
          have nS1 : S ≠ T1 := ne_of_none hS2 hT1
          have nW1 : W ≠ T1 := ne_of_none hW2 hT1
          have hS3 : upd (upd H' W (.lst (refs (f' :: fr'')))) T1 (.tup [.str "close"]) S = some (.lst outs) := by
            rw [upd_ne nS1]
            exact hS2
          refine ⟨S, _, _, rfl, rfl, hS3, small (by omega), ?_⟩
          have t3 := t2.trans (Tp.new (o := .tup [.str "close"]) hT1)
          have t4 := t3.trans (Tp.lst (o := .lst (outs ++ [V.ref T1])) hS3)
          have m3 := m2.trans (Sm.new (o := .tup [.str "close"]) m2.2 hT1)
          have m4 : Sm P H (upd (upd (upd H' W (.lst (refs (f' :: fr'')))) T1 (.tup [.str "close"])) S (.lst (outs ++ [V.ref T1]))) := m3.mut wS.1 wS.2
          refine ⟨f' :: fr'', w' :: ws3, out ++ [.cl], outs ++ [V.ref T1], _, rfl, ⟨m4, upd_same, ?_, ?_, Wrs.mono (fun x hx => ?_) (.cons hf' hfr'), ?_, ?_, ?_, ?_⟩, by simp, by rw [← hcnt]; simp [cntW, cntS], by simp⟩
          · refine paired_append (sgs_tp t4 N.os) (.cons ⟨T1, rfl, .inl (.inl ?_)⟩ .nil)
            rw [upd_ne nS1.symm, upd_same]
            rfl
          · rw [upd_ne neSW.symm, upd_ne nW1, upd_same]
          · obtain ⟨u, hu⟩ := xat x hx
            have x1 : x.1 ≠ T1 := ne_of_none (o := .lst u) (by rw [upd_ne (xW x hx)]; exact hu) hT1
            rw [upd_ne (xS x hx), upd_ne x1, upd_ne (xW x hx)]
          · refine List.nodup_cons.mpr ⟨fun z => ?_, List.nodup_cons.mpr ⟨fun z => ?_, ndfr⟩⟩
            · rcases List.mem_cons.mp z with z | z
              · exact neSW z
              · exact ndS (List.mem_cons_of_mem _ (List.mem_cons_of_mem _ z))
            · exact ndW (List.mem_cons_of_mem _ z)
          · intro b hb
            refine N.nw b ?_
            rcases List.mem_cons.mp hb with z | z
            · rw [z]; exact List.mem_cons_self ..
            · rcases List.mem_cons.mp z with z | z
              · rw [z]; exact List.mem_cons_of_mem _ (List.mem_cons_self ..)
              · exact List.mem_cons_of_mem _ (List.mem_cons_of_mem _ (List.mem_cons_of_mem _ z))
          · have := N.eq
            rw [rest_nil] at this
            rw [List.append_assoc]
            exact this
          · have := N.le
            rw [List.length_append, List.length_singleton]
            simp at this ⊢
            omega
      | cons d w' =>
        rw [ndsD] at f2
        obtain ⟨v, vs, ef, d1, d2⟩ := all_cons' f2
        rw [show (decide (V.int ((f.2.reverse.length : Nat) : Int) = V.int 0)) = false from decide_eq_false (fun z => by
          have z' := V.int.inj z
          rw [ef, List.length_reverse, List.length_cons] at z'
          omega)]
        refine iteF ?_
        have f1' : H' f.1 = some (.lst (vs.reverse ++ [v])) := by
          rw [f1, ef, List.reverse_cons]
        refine ⟨_, rfl, _, rfl, W, _, _, _, rfl, rfl, SqL.of N.hW, hlast, .inl ⟨rfl, _, SqL.of f1'⟩, f.1, _, _, rfl, rfl, f1', pop_last _ _, ?_⟩
        rw [List.dropLast_concat]
        have t1 : Tp H' (upd H' f.1 (.lst vs.reverse)) := Tp.lst f1'
        have m1 : Sm P H (upd H' f.1 (.lst vs.reverse)) := N.sm.mut wf.1 wf.2
        have hS1 : upd H' f.1 (.lst vs.reverse) S = some (.lst outs) := by
          rw [upd_ne nfS.symm]
          exact N.hS
        have hW1 : upd H' f.1 (.lst vs.reverse) W = some (.lst (refs (f :: fr'))) := by
          rw [upd_ne nfW.symm]
          exact N.hW
        have hf1 : upd H' f.1 (.lst vs.reverse) f.1 = some (.lst vs.reverse) := upd_same
        have hfr1 : Wrs K H (upd H' f.1 (.lst vs.reverse)) fr' ws'' := Wrs.mono (fun x hx => upd_ne (xf x hx)) hfr
        have os1 := sgs_tp t1 N.os
        generalize upd H' f.1 (.lst vs.reverse) = G1 at m1 hS1 hW1 hf1 hfr1 os1
        have restE : rest ((d :: w') :: ws'') = sgN d ++ rest (w' :: ws'') := by cases ws'' <;> simp [rest, sgs]
        have okd : (sgN d).all Sg.ok = true := by
          have e := N.eq
          rw [restE] at e
          rw [← e, List.all_append, List.all_append, Bool.and_eq_true, Bool.and_eq_true] at hok
          exact hok.2.1
        have toR : refs (f :: fr') = refs ((f.1, vs) :: fr') := by rw [refs_cons, refs_cons]
        refine ⟨_, rfl, m1.2, _, ⟨v, d, rfl, nd_tp (Tp.sm t m1) _ _ d1, okd, rfl⟩, fun b G2 s2 e => ⟨isTx d, e, ?_⟩⟩
        have m2 := m1.trans s2
        have hS2 := s2.atL m1.2 hS1
        have hW2 := s2.atL m1.2 hW1
        have hf2 := s2.atL m1.2 hf1
        have hfr2 : Wrs K H G2 fr' ws'' := by
          refine paired_mono (fun x y q => ⟨s2.atL m1.2 q.1, q.2⟩) hfr1
        have os2 := sgs_tp (Tp.sm m1.2 s2) os1
        clear hS1 hW1 hf1 hfr1 os1 m1 t1
        have at2 : ∀ x ∈ fr', ∃ u, G2 x.1 = some (.lst u) := fun x hx => by
          obtain ⟨j, hj⟩ := List.mem_iff_getElem?.mp hx
          obtain ⟨_, _, q1, _⟩ := paired_get hfr2 hj
          exact ⟨_, q1⟩
        have nodup' : (S :: W :: adr ((f.1, vs) :: fr')).Nodup := N.nd
        have news' : ∀ b ∈ S :: W :: adr ((f.1, vs) :: fr'), H b = none ∧ b ≠ P := N.nw
        cases d with
        | tx z =>
          obtain ⟨q, rfl, hq0⟩ := nd_tx d1
          refine iteT ⟨_, rfl, .inl ⟨rfl, _, SqL.of hS2⟩, _, rfl, q, _, _, _, rfl, rfl, m2.tup t hq0, atI_nat (j := 1) rfl, (by show 2 ≤ sizeLine; decide), fun T1 hT1 => ?_⟩
          have nS1 : S ≠ T1 := ne_of_none hS2 hT1
          have nW1 : W ≠ T1 := ne_of_none hW2 hT1
          have nf1 : f.1 ≠ T1 := ne_of_none hf2 hT1
          have hS3 : upd G2 T1 (.tup [.str "text", .str z]) S = some (.lst outs) := by
            rw [upd_ne nS1]
            exact hS2
          refine ⟨S, _, _, rfl, rfl, hS3, small (by omega), ?_⟩
          have t4 := (Tp.new (o := .tup [.str "text", .str z]) hT1).trans (Tp.lst (o := .lst (outs ++ [V.ref T1])) hS3)
          have m3 := m2.trans (Sm.new (o := .tup [.str "text", .str z]) m2.2 hT1)
          have m4 : Sm P H (upd (upd G2 T1 (.tup [.str "text", .str z])) S (.lst (outs ++ [V.ref T1]))) := m3.mut wS.1 wS.2
          refine ⟨_, rfl, _, _, rfl, rfl, ?_⟩
          refine ⟨(f.1, vs) :: fr', w' :: ws'', out ++ [.tx z], outs ++ [V.ref T1], _, _, rfl, ⟨m4, upd_same, ?_, ?_, .cons ⟨?_, d2⟩ (Wrs.mono (fun x hx => ?_) hfr2), nodup', news', ?_, ?_⟩, by simp, by rw [← hcnt]; exact cnt_tx⟩
          · refine paired_append (sgs_tp t4 os2) (.cons ⟨T1, rfl, .inl (.inl ?_)⟩ .nil)
            rw [upd_ne nS1.symm, upd_same]
            rfl
          · rw [upd_ne neSW.symm, upd_ne nW1, hW2, toR]
          · rw [upd_ne nfS, upd_ne nf1]
            exact hf2
          · obtain ⟨u, hu⟩ := at2 x hx
            rw [upd_ne (xS x hx), upd_ne (ne_of_none hu hT1)]
          · have := N.eq
            rw [rest_tx] at this
            rw [List.append_assoc]
            exact this
          · have := N.le
            rw [List.length_append, List.length_singleton]
            simp at this ⊢
            omega
        | el l ds' =>
          obtain ⟨q, b2, ys, rfl, hq0, hb0, hys⟩ := nd_el d1
          have okl : Sg.ok (.op l) = true := by
            have e : (sgN (.el l ds')).all Sg.ok = true := okd
            rw [sgN, List.all_cons, Bool.and_eq_true] at e
            exact e.1
          refine iteF ⟨_, rfl, m2.2, _, ⟨_, l, ds', rfl, nd_tp (Tp.sm t m2) _ _ d1, okl, rfl⟩, fun b G3 s3 e => ⟨true, e, iteT ?_⟩⟩
          have m3 := m2.trans s3
          have hS3 := s3.atL m2.2 hS2
          have hW3 := s3.atL m2.2 hW2
          have hf3 := s3.atL m2.2 hf2
          have hfr3 : Wrs K H G3 fr' ws'' := paired_mono (fun x y q => ⟨s3.atL m2.2 q.1, q.2⟩) hfr2
          have os3 := sgs_tp (Tp.sm m2.2 s3) os2
          have at3 : ∀ x ∈ fr', ∃ u, G3 x.1 = some (.lst u) := fun x hx => by
            obtain ⟨j, hj⟩ := List.mem_iff_getElem?.mp hx
            obtain ⟨_, _, q1, _⟩ := paired_get hfr3 hj
            exact ⟨_, q1⟩
          refine ⟨_, rfl, .inl ⟨rfl, _, SqL.of hS3⟩, _, rfl, q, _, _, _, rfl, rfl, m3.tup t hq0, atI_nat (j := 1) rfl, (by show 2 ≤ sizeLine; decide), fun T1 hT1 => ?_⟩
          have nS1 : S ≠ T1 := ne_of_none hS3 hT1
          have nW1 : W ≠ T1 := ne_of_none hW3 hT1
          have nf1 : f.1 ≠ T1 := ne_of_none hf3 hT1
          have hS4 : upd G3 T1 (.tup [.str "open", .str l]) S = some (.lst outs) := by
            rw [upd_ne nS1]
            exact hS3
          refine ⟨S, _, _, rfl, rfl, hS4, small (by omega), ?_⟩
          have t4 := (Tp.new (o := .tup [.str "open", .str l]) hT1).trans (Tp.lst (o := .lst (outs ++ [V.ref T1])) hS4)
          have m4 := m3.trans (Sm.new (o := .tup [.str "open", .str l]) m3.2 hT1)
          have m5 : Sm P H (upd (upd G3 T1 (.tup [.str "open", .str l])) S (.lst (outs ++ [V.ref T1]))) := m4.mut wS.1 wS.2
          have hS5 : upd (upd G3 T1 (.tup [.str "open", .str l])) S (.lst (outs ++ [V.ref T1])) S = some (.lst (outs ++ [V.ref T1])) := upd_same
          have hW5 : upd (upd G3 T1 (.tup [.str "open", .str l])) S (.lst (outs ++ [V.ref T1])) W = some (.lst (refs (f :: fr'))) := by
            rw [upd_ne neSW.symm, upd_ne nW1]
            exact hW3
          have hf5 : upd (upd G3 T1 (.tup [.str "open", .str l])) S (.lst (outs ++ [V.ref T1])) f.1 = some (.lst vs.reverse) := by
            rw [upd_ne nfS, upd_ne nf1]
            exact hf3
          have hfr5 : Wrs K H (upd (upd G3 T1 (.tup [.str "open", .str l])) S (.lst (outs ++ [V.ref T1]))) fr' ws'' := Wrs.mono (fun x hx => by
            obtain ⟨u, hu⟩ := at3 x hx
            rw [upd_ne (xS x hx), upd_ne (ne_of_none hu hT1)]) hfr3
          have os5 : Paired (SgV K (upd (upd G3 T1 (.tup [.str "open", .str l])) S (.lst (outs ++ [V.ref T1])))) (outs ++ [V.ref T1]) (out ++ [.op l]) := by
            refine paired_append (sgs_tp t4 os3) (.cons ⟨T1, rfl, .inl (.inl ?_)⟩ .nil)
            rw [upd_ne nS1.symm, upd_same]
            rfl
          generalize upd (upd G3 T1 (.tup [.str "open", .str l])) S (.lst (outs ++ [V.ref T1])) = G5 at m5 hS5 hW5 hf5 hfr5 os5
          have at5 : ∀ x ∈ fr', ∃ u, G5 x.1 = some (.lst u) := fun x hx => by
            obtain ⟨j, hj⟩ := List.mem_iff_getElem?.mp hx
            obtain ⟨_, _, q1, _⟩ := paired_get hfr5 hj
            exact ⟨_, q1⟩
          refine ⟨_, rfl, .inl ⟨rfl, _, SqL.of hW5⟩, _, rfl, q, _, _, _, rfl, rfl, m5.tup t hq0, atI_nat (j := 2) rfl, b2, ys, rfl, m5.tup t hb0, fun A2 hA2 => ?_⟩
          have nS2 : S ≠ A2 := ne_of_none hS5 hA2
          have nW2 : W ≠ A2 := ne_of_none hW5 hA2
          have nf2 : f.1 ≠ A2 := ne_of_none hf5 hA2
          have hW6 : upd G5 A2 (.lst ys.reverse) W = some (.lst (refs (f :: fr'))) := by
            rw [upd_ne nW2]
            exact hW5
          refine ⟨W, _, _, rfl, rfl, hW6, ?_, ?_⟩
          · rw [refs_len]
            have := N.le
            exact small (by omega)
          have t6 := (Tp.new (o := .lst ys.reverse) hA2).trans (Tp.lst (o := .lst (refs (f :: fr') ++ [V.ref A2])) hW6)
          have m6 := m5.trans (Sm.new (o := .lst ys.reverse) m5.2 hA2)
          have m7 : Sm P H (upd (upd G5 A2 (.lst ys.reverse)) W (.lst (refs (f :: fr') ++ [V.ref A2]))) := m6.mut wW.1 wW.2
          refine ⟨_, rfl, _, _, rfl, rfl, ?_⟩
          have x2 : ∀ x ∈ fr', x.1 ≠ A2 := fun x hx => by
            obtain ⟨u, hu⟩ := at5 x hx
            exact ne_of_none hu hA2
          refine ⟨(A2, ys) :: (f.1, vs) :: fr', ds' :: w' :: ws'', out ++ [.op l], outs ++ [V.ref T1], _, _, rfl, ⟨m7, ?_, sgs_tp t6 os5, ?_, .cons ⟨?_, hys⟩ (.cons ⟨?_, d2⟩ (Wrs.mono (fun x hx => ?_) hfr5)), ?_, ?_, ?_, ?_⟩, by simp, by rw [← hcnt]; exact cnt_el⟩
          · rw [upd_ne neSW, upd_ne nS2]
            exact hS5
          · rw [upd_same, refs_cons (A2, ys), ← toR]
          · rw [upd_ne nW2.symm, upd_same]
          · rw [upd_ne nfW, upd_ne nf2]
            exact hf5
          · rw [upd_ne (xW x hx), upd_ne (x2 x hx)]
          · have hA : A2 ∉ adr ((f.1, vs) :: fr') := fun z => by
              rcases List.mem_cons.mp z with z | z
              · exact nf2 z.symm
              · obtain ⟨x, hx, e⟩ := List.mem_map.mp z
                exact x2 x hx e
            refine List.nodup_cons.mpr ⟨fun z => ?_, List.nodup_cons.mpr ⟨fun z => ?_, List.nodup_cons.mpr ⟨hA, nda⟩⟩⟩
            · rcases List.mem_cons.mp z with z | z
              · exact neSW z
              · rcases List.mem_cons.mp z with z | z
                · exact nS2 z
                · exact ndS (List.mem_cons_of_mem _ z)
            · rcases List.mem_cons.mp z with z | z
              · exact nW2 z
              · exact ndW z
          · intro b hb
            rcases List.mem_cons.mp hb with z | z
            · rw [z]; exact wS
            · rcases List.mem_cons.mp z with z | z
              · rw [z]; exact wW
              · rcases List.mem_cons.mp z with z | z
                · rw [z]; exact ⟨m5.free t hA2, nP m5.2 hA2⟩
                · exact news' b (List.mem_cons_of_mem _ (List.mem_cons_of_mem _ z))
          · have := N.eq
            rw [rest_el] at this
            rw [List.append_assoc]
            exact this
          · have := N.le
            rw [List.length_append, List.length_singleton]
            simp at this ⊢
            omega
end
end K6

set_option Elab.async false
set_option linter.all false
set_option maxRecDepth 100000
set_option maxHeartbeats 4000000
namespace K6
open PySem PySem.Spec PyProof.Rows L2 So
/-! ### a list or a tuple -/
def Sq (K : PySem.W.Frag) (H : Hp) (a : Addr) (xs : List V) : Prop := SqT K H a xs ∨ SqL K H a xs
theorem Sq.t {K : PySem.W.Frag} {H : Hp} {a : Addr} {xs : List V} (h : SqT K H a xs) : Sq K H a xs := .inl h
theorem Sq.mono {K : PySem.W.Frag} {P : Addr} {H H' : Hp} {a : Addr} {xs : List V} (t : GxR.TabG H P) (s : Sm P H H') (h : Sq K H a xs) : Sq K H' a xs := h.elim (fun h => .inl (s.tup t h)) (fun h => .inr (s.lst t h))
theorem tyL {K : PySem.W.Frag} {H : Hp} {p : Addr} {xs : List V} (h : H p = some (.lst xs)) : TyX K H (.ref p) (.type "list") := .base (.lst h)
section
variable {X : Cx} {tg l : Expr} {tl : TE}
theorem pi_or {wi wi' : TI} (h : PI X tg l wi) (h' : PI X tg l wi') : PI X tg l (fun σ H R => wi σ H R ∨ wi' σ H R) := ⟨fun pins s σ H R I q => q.elim (h.run pins s σ H R I) (h'.run pins s σ H R I)⟩
def iSq (K : PySem.W.Frag) (tl : TE) : TI := fun σ H R => iTup K tl σ H R ∨ iList K tl σ H R
theorem pi_sq (hl : PE X l tl) : PI X tg l (iSq X.K tl) := pi_or (pi_tup hl) (pi_list hl)
theorem ix_sq : IxR X (fun x y H Q => rIxT X.K x y H Q ∨ rIxL X.K x y H Q) := IxR.or ix_tup ix_list
end
def gSq (K : PySem.W.Frag) (n : Nat) (t : TGs) : TG := fun v σ H Q => ∃ a xs, v = .ref a ∧ Sq K H a xs ∧ xs.length = n ∧ t xs σ H Q
theorem pg_sq {X : Cx} {es : List Expr} {k : Nat} {t : TGs} {n : Nat} {pos : Pos} (hc : X.calm = true) (h : PGs X es t)
    (hn : (assignEach es X.env).length = n := by rfl) (hst : (assignEach es X.env).findIdx? (·.1) = none := by rfl) : PG X (.Tuple es k pos) (gSq X.K n t) := ⟨fun pins s σ H v u Q I r ⟨a, xs, e, q, l, z⟩ =>
  q.elim (fun q => (pg_tup hc h hn hst).run pins s σ H v u Q I r ⟨a, xs, e, q, l, z⟩) (fun q => (pg_unl hc h hn hst).run pins s σ H v u Q I r ⟨a, xs, e, q, l, z⟩)⟩
theorem at_sq {K : PySem.W.Frag} {H : Hp} {p : Addr} {xs : List V} {i : Int} {v : V} {Q : VK} (h : Sq K H p xs) (e : atI xs i = some v) (q : Q v H) : rIxT K (.ref p) (.int i) H Q ∨ rIxL K (.ref p) (.int i) H Q :=
  h.elim (fun h => .inl ⟨p, xs, i, v, rfl, rfl, h, e, q⟩) (fun h => .inr ⟨p, xs, i, v, rfl, rfl, h, e, q⟩)
/-- for x in a list or a tuple: the whole reading of the loop -/
theorem for_sq {K : PySem.W.Frag} {a : Addr} {xs : List V} {g : TG} {tb : TS} {D : Ends} {σ : L2.St} {H : Hp} {tl : TE} (h : Sq K H a xs) (ht : ∀ Q, Q (.ref a) H → tl σ H Q) (Pv : Nat → L2.St → Hp → Prop) (h0 : Pv 0 σ H)
    (hk : ∀ i σ' H', Pv i σ' H' → (SqT K H a xs → SqT K H' a xs) ∧ (SqL K H a xs → SqL K H' a xs))
    (hs : ∀ i x σ H, xs[i]? = some x → Pv i σ H → g x σ H fun σ2 H2 => tb { D with nx := Pv (i + 1), ct := Pv (i + 1), bk := D.nx } σ2 H2) (hd : ∀ σ H, Pv xs.length σ H → D.nx σ H) :
    tFor (iSq K tl) g tb D σ H := by
  rcases h with h | h
  · exact .inl (ht _ ⟨a, rfl, ⟨xs, h⟩, for_tup Pv h0 (fun i σ' H' _ p => (hk i σ' H' p).1 h) hs hd⟩)
  · exact .inr (ht _ ⟨a, rfl, ⟨xs, h⟩, for_list Pv h0 (fun i σ' H' _ p => (hk i σ' H' p).2 h) hs hd⟩)
/-- the same of a comprehension, walking the name in a slot -/
theorem lc_sq {K : PySem.W.Frag} {a : Addr} {xs : List V} {g : TG} {tt : TT} {te : TE} {vs : List Nat} {σ : L2.St} {H1 : Hp} {Q : VK} {tl : TE} (h : Sq K H1 a xs) (ht : ∀ Q, Q (.ref a) H1 → tl σ H1 Q) (Pv : Addr → Nat → Hp → Prop) (h0 : ∀ D, H1 D = none → Pv D 0 (upd H1 D (.lst [])))
    (hk : ∀ D, H1 D = none → ∀ i H', Pv D i H' → (SqT K H1 a xs → SqT K H' a xs) ∧ (SqL K H1 a xs → SqL K H' a xs))
    (hs : ∀ D, H1 D = none → ∀ i x H, xs[i]? = some x → Pv D i H → g x (wipe σ vs) H fun σ2 H2 => wipe σ2 vs = wipe σ vs ∧ tt σ2 H2 fun b H3 =>
      if b = true then te σ2 H3 fun y H4 => ∃ acc, H4 D = some (.lst acc) ∧ acc.length < sizeLine ∧ Pv D (i + 1) (upd H4 D (.lst (acc ++ [y]))) else Pv D (i + 1) H3) (hd : ∀ D, H1 D = none → ∀ H, Pv D xs.length H → Q (.ref D) H) :
    tLc (iSq K tl) g tt te vs σ H1 Q := by
  rcases h with h | h
  · exact .inl (ht _ ⟨a, rfl, ⟨xs, h⟩, fun D hD => lc_tup (Pv D) (h0 D hD) (fun i H' _ p => (hk D hD i H' p).1 h) (hs D hD) (hd D hD)⟩)
  · exact .inr (ht _ ⟨a, rfl, ⟨xs, h⟩, fun D hD => lc_list (Pv D) (h0 D hD) (fun i H' _ p => (hk D hD i H' p).2 h) (hs D hD) (hd D hD)⟩)
theorem sq_keep {K : PySem.W.Frag} {P : Addr} {H H' : Hp} {a : Addr} {xs : List V} (t : GxR.TabG H P) (s : Sm P H H') : (SqT K H a xs → SqT K H' a xs) ∧ (SqL K H a xs → SqL K H' a xs) := ⟨s.tup t, s.lst t⟩
theorem next_of {D : Ends} {σ : L2.St} {H : Hp} (h : D.nx σ H) : tNext D σ H := h
theorem ret_of {te : TE} {D : Ends} {σ : L2.St} {H : Hp} (h : te σ H D.rt) : tRet te D σ H := h
theorem then_of {ta : TE} {k : V → Hp → VK → Prop} {σ : L2.St} {H : Hp} {Q : VK} (h : ta σ H fun x H1 => k x H1 Q) : tThen ta k σ H Q := h
theorem cb1_of {r : List V → Hp → VK → Prop} {ta : TE} {σ : L2.St} {H : Hp} {Q : VK} (h : ta σ H fun x H1 => r [x] H1 Q) : tCB r (tCons ta tNil) σ H Q := h
theorem asg_of {te : TE} {g : TG} {D : Ends} {σ : L2.St} {H : Hp} (h : te σ H fun x H1 => g x σ H1 D.nx) : tAsg te g D σ H := h
theorem seq_of {t u : TS} {D : Ends} {σ : L2.St} {H : Hp} (h : t { D with nx := u D } σ H) : tSeq t u D σ H := h
theorem cons_of {ta : TE} {tr : TA} {σ : L2.St} {H : Hp} {Q : List V → Hp → Prop} (h : ta σ H fun x H1 => tr σ H1 fun xs H2 => Q (x :: xs) H2) : tCons ta tr σ H Q := h
end K6

set_option Elab.async false
set_option linter.all false
set_option maxRecDepth 100000
set_option maxHeartbeats 4000000
namespace K6
open PySem PySem.Spec PyProof.Rows L2 So
structure Ty (K : PySem.W.Frag) (mg : Str → Option Value) : Prop where
  T : Tx K mg
  any : mg "any" = none
  zip : mg "zip" = none
  repr : mg "repr" = none
  lsm : ∃ t, mg "LABELS_MOST" = some (.int 6 t)
  tsm : ∃ t, mg "TEXTS_MOST" = some (.int 4 t)
  ssm : ∃ t, mg "STATES_MOST" = some (.int 200 t)
  wsm : ∃ t, mg "WORDS_MOST" = some (.int 8 t)
theorem kitTrueL {K : PySem.W.Frag} : PySem.W.kitAny K (.type "list") [.type "list", .type "tuple"] = some true :=
  kitAny_cons (b := true) (kit_ty (by decide +kernel)) (fun q => nomatch q) (fun _ => rfl)
theorem tyLL {K : PySem.W.Frag} {H : Hp} {p : Addr} {xs : List V} (h : SqL K H p xs) : TyX K H (.ref p) (.type "list") := by
  rcases h with (h | ⟨o, h⟩) | ⟨o, its, n, h, c, _⟩
  · exact .base (.lst h)
  · exact .base (.frz h)
  · exact .kList h c
section
variable {Pg : Program} {w : World} {K : PySem.W.Frag} {mg : Str → Option Value} {base : Heap} {P : Addr}
/-! ### is_sequence, is_row_of, of a list or a tuple -/
def spSeq2 (K : PySem.W.Frag) (P : Addr) : Sp := Pu P fun vs H R => ∃ (p : Addr) (xs : List V), vs = [.ref p] ∧ Sq K H p xs ∧ R = fun v _ => v = .bl true
theorem ok_seq2 {f : Addr} {fd : FuncData} (F : Fun K "is_sequence" "is_sequence" sSeq f fd) (T : Tx K mg) : FnOk Pg w K mg base CX0 1 f fd ["value"] (spSeq2 K P) := by
  refine F.ok scSeq (fun vs H Q E h => ?_) (fun cdv A outer s H vs Q E hr h => ?_)
  · obtain ⟨_, _, ⟨p, xs, rfl, _⟩, _⟩ := h
    rfl
  · obtain ⟨t, _, ⟨p, xs, rfl, hx, rfl⟩, k⟩ := h
    refine ⟨_, pss_one (ps_ret (pe_callB call_isiT (by rfl) T.isi (by decide +kernel) (pa_cons (pv 0) (pa_cons (pe_tup (pa_cons (pe_bltn (v := .ty "list") (by rfl) T.list (by decide +kernel) rfl) (pa_cons (pe_bltn (v := .ty "tuple") (by rfl) T.tuple (by decide +kernel) rfl) pa_nil))) pa_nil)))), ?_⟩
    refine ⟨_, rfl, (by show 2 ≤ sizeLine; decide), fun q hq => ?_⟩
    have s1 : Sm P H (upd H q (.tup [.ty "list", .ty "tuple"])) := Sm.new t hq
    rcases hx with hx | hx
    · exact ⟨_, q, _, _, _, true, rfl, upd_same, .cons (.ty _) (.cons (.ty _) .nil), tyT (s1.tup t hx), kitTrue, k _ _ s1 rfl⟩
    · exact ⟨_, q, _, _, _, true, rfl, upd_same, .cons (.ty _) (.cons (.ty _) .nil), tyLL (s1.lst t hx), kitTrueL, k _ _ s1 rfl⟩
theorem len_sq {H : Hp} {p : Addr} {xs : List V} (h : Sq K H p xs) : SqL K H p xs ∨ SqT K H p xs := h.symm
def spRow2 (K : PySem.W.Frag) (P : Addr) : Sp := Pu P fun vs H R => ∃ (p : Addr) (xs : List V) (n : Int), vs = [.ref p, .int n] ∧ Sq K H p xs ∧ R = fun v _ => v = .bl (decide ((xs.length : Int) = n))
theorem ok_row2 {f fS : Addr} {fd fdS : FuncData} (F : Fun K "is_row_of" "is_row_of" sRow f fd) (T : Tx K mg) (S : Df K mg "is_sequence" sSeq ["value"] fS fdS) : FnOk Pg w K mg base CX0 2 f fd ["value", "many"] (spRow2 K P) := by
  have GS : FnOk Pg w K mg base CX0 1 fS fdS ["value"] (spSeq2 K P) := ok_seq2 S.F T
  refine F.ok scRow (fun vs H Q E h => ?_) (fun cdv A outer s H vs Q E hr h => ?_)
  · obtain ⟨_, _, ⟨p, xs, n, rfl, _⟩, _⟩ := h
    rfl
  · obtain ⟨t, _, ⟨p, xs, n, rfl, hx, rfl⟩, k⟩ := h
    refine ⟨_, pss_one (ps_ret (pe_and (pe_call GS hr (by rfl) S.g S.F.kp S.b .nil pass0 (pa_cons (pv 0) pa_nil)) (pe_one (pe_cmpR op_eq (pe_callB call_len_seq (by rfl) T.len (by decide +kernel) (pa_cons (pv 0) pa_nil)) (pv 1) (nomark _))))), ?_⟩
    refine ⟨_, rfl, t, _, ⟨p, xs, rfl, hx, rfl⟩, fun v H' s1 e => ⟨true, e, ?_⟩⟩
    refine iteT ⟨_, rfl, p, xs, rfl, len_sq (hx.mono t s1), _, rfl, rfl, ?_⟩
    refine k _ _ s1 ?_
    show V.bl (decide (V.int (xs.length : Int) = V.int n)) = V.bl (decide ((xs.length : Int) = n))
    by_cases e : (xs.length : Int) = n
    · rw [decide_eq_true e, decide_eq_true (congrArg V.int e)]
    · rw [decide_eq_false e, decide_eq_false (fun q => e (V.int.inj q))]
/-! ### is_number_below, is_state_count -/
abbrev sNub : Stmt := top 9
theorem scNub : FnScope ["value", "bound"] ["value", "bound"] (defScope sNub) := ⟨rfl, rfl, rfl, by decide +kernel, rfl, by decide +kernel, by decide +kernel⟩
def spNub (P : Addr) : Sp := Pu P fun vs H R => ∃ n b : Int, vs = [.int n, .int b] ∧ 0 ≤ n ∧ n < b ∧ R = fun v _ => v = .bl true
theorem ok_nub {f fN : Addr} {fd fdN : FuncData} (F : Fun K "is_number_below" "is_number_below" sNub f fd) (T : Tx K mg) (N : Df K mg "is_number" sNum ["value"] fN fdN) : FnOk Pg w K mg base CX0 2 f fd ["value", "bound"] (spNub P) := by
  have GN : FnOk Pg w K mg base CX0 1 fN fdN ["value"] (spNum P) := ok_num N.F T
  refine F.ok scNub (fun vs H Q E h => ?_) (fun cdv A outer s H vs Q E hr h => ?_)
  · obtain ⟨_, _, ⟨n, b, rfl, _⟩, _⟩ := h
    rfl
  · obtain ⟨t, _, ⟨n, b, rfl, h0, hb, rfl⟩, k⟩ := h
    refine ⟨_, pss_one (ps_ret (pe_and (pe_call GN hr (by rfl) N.g N.F.kp N.b .nil pass0 (pa_cons (pv 0) pa_nil)) (pe_one (pe_cmpR op_lt (pv 0) (pv 1) (nomark _))))), ?_⟩
    refine ⟨_, rfl, t, _, ⟨n, rfl, rfl⟩, fun v H1 s1 e => ⟨true, by rw [e, decide_eq_true (show n ≥ 0 from h0)], iteT ?_⟩⟩
    exact ⟨_, rfl, _, rfl, _, _, rfl, rfl, k _ _ s1 (by show V.bl (decide (n < b)) = V.bl true; rw [decide_eq_true hb])⟩
abbrev sStc : Stmt := top 26
theorem scStc : FnScope ["value"] ["value"] (defScope sStc) := ⟨rfl, rfl, rfl, by decide +kernel, rfl, by decide +kernel, by decide +kernel⟩
def spStc (P : Addr) : Sp := Pu P fun vs H R => ∃ n : Int, vs = [.int n] ∧ 1 ≤ n ∧ n ≤ 200 ∧ R = fun v _ => v = .bl true
theorem ok_stc {f fN : Addr} {fd fdN : FuncData} (F : Fun K "is_state_count" "is_state_count" sStc f fd) (T : Ty K mg) (N : Df K mg "is_number" sNum ["value"] fN fdN) : FnOk Pg w K mg base CX0 2 f fd ["value"] (spStc P) := by
  have GN : FnOk Pg w K mg base CX0 1 fN fdN ["value"] (spNum P) := ok_num N.F T.T
  obtain ⟨_, tm⟩ := T.ssm
  refine F.ok scStc (fun vs H Q E h => ?_) (fun cdv A outer s H vs Q E hr h => ?_)
  · obtain ⟨_, _, ⟨n, rfl, _⟩, _⟩ := h
    rfl
  · obtain ⟨t, _, ⟨n, rfl, h1, h2, rfl⟩, k⟩ := h
    refine ⟨_, pss_one (ps_ret (pe_and (pe_call GN hr (by rfl) N.g N.F.kp N.b .nil pass0 (pa_cons (pv 0) pa_nil)) (pe_one (pe_chain op_le op_le pe_int (pv 0) (pe_glob (v := .int 200) (by rfl) tm ⟨_, rfl⟩))))), ?_⟩
    refine ⟨_, rfl, t, _, ⟨n, rfl, rfl⟩, fun v H1 s1 e => ⟨true, by rw [e, decide_eq_true (show n ≥ 0 by omega)], iteT ?_⟩⟩
    refine ⟨_, rfl, _, _, rfl, rfl, _, rfl, ?_⟩
    rw [decide_eq_true h1]
    exact iteT ⟨_, _, rfl, rfl, k _ _ s1 (by show V.bl (decide (n ≤ 200)) = V.bl true; rw [decide_eq_true h2])⟩
end
/-! ### rows of items -/
def ItS (S : Hp → Addr → List V → Prop) (H : Hp) (v : V) (ys : List V) : Prop := ∃ b, v = .ref b ∧ S H b ys
def RowsS (S : Hp → Addr → List V → Prop) (H : Hp) (v : V) (yss : List (List V)) : Prop := ∃ a xs, v = .ref a ∧ S H a xs ∧ Paired (ItS S H) xs yss
def Mo (S : Hp → Addr → List V → Prop) (P : Addr) : Prop := ∀ H H' a xs, GxR.TabG H P → Sm P H H' → S H a xs → S H' a xs
theorem mo_sq {K : PySem.W.Frag} {P : Addr} : Mo (Sq K) P := fun _ _ _ _ t s h => h.mono t s
theorem mo_tup {K : PySem.W.Frag} {P : Addr} : Mo (SqT K) P := fun _ _ _ _ t s h => s.tup t h
theorem ItS.mono {S : Hp → Addr → List V → Prop} {P : Addr} {H H' : Hp} {v : V} {ys : List V} (m : Mo S P) (t : GxR.TabG H P) (s : Sm P H H') (h : ItS S H v ys) : ItS S H' v ys := by
  obtain ⟨b, e, h⟩ := h
  exact ⟨b, e, m _ _ _ _ t s h⟩
theorem RowsS.mono {S : Hp → Addr → List V → Prop} {P : Addr} {H H' : Hp} {v : V} {yss : List (List V)} (m : Mo S P) (t : GxR.TabG H P) (s : Sm P H H') (h : RowsS S H v yss) : RowsS S H' v yss := by
  obtain ⟨a, xs, e, h, p⟩ := h
  exact ⟨a, xs, e, m _ _ _ _ t s h, paired_mono (fun _ _ h => h.mono m t s) p⟩
def iV (ns : List Nat) : List V := ns.map fun n => V.int (n : Nat)
def bV (bs : List Bool) : List V := bs.map V.bl
theorem iV_at {ns : List Nat} {i : Nat} {x : V} (h : (iV ns)[i]? = some x) : ∃ n, ns[i]? = some n ∧ x = .int (n : Nat) := by
  unfold iV at h
  rw [List.getElem?_map] at h
  cases e : ns[i]? with
  | none =>
    rw [e] at h
    cases h
  | some y =>
    rw [e] at h
    exact ⟨y, rfl, (Option.some.inj h).symm⟩
section
variable {Pg : Program} {w : World} {K : PySem.W.Frag} {mg : Str → Option Value} {base : Heap} {P : Addr}
/-! ### is_map, are_maps -/
abbrev sMap : Stmt := top 27
theorem scMap : FnScope ["value", "length", "many", "state"] ["value", "length", "many"] (defScope sMap) := ⟨rfl, rfl, rfl, by decide +kernel, rfl, by decide +kernel, by decide +kernel⟩
def spMap (K : PySem.W.Frag) (P : Addr) : Sp := Pu P fun vs H R => ∃ (v : V) (ns : List Nat) (l m : Int), vs = [v, .int l, .int m] ∧ ItS (Sq K) H v (iV ns) ∧ l = (ns.length : Nat) ∧ (∀ n ∈ ns, ((n : Nat) : Int) < m) ∧ R = fun v _ => v = .bl true
theorem ok_map {f fR fS : Addr} {fd fdR fdS : FuncData} (F : Fun K "is_map" "is_map" sMap f fd) (T : Ty K mg) (R : Df K mg "is_row_of" sRow ["value", "many"] fR fdR) (S : Df K mg "is_sequence" sSeq ["value"] fS fdS) : FnOk Pg w K mg base CX0 3 f fd ["value", "length", "many"] (spMap K P) := by
  have GR : FnOk Pg w K mg base CX0 2 fR fdR ["value", "many"] (spRow2 K P) := ok_row2 R.F T.T S
  refine F.ok scMap (fun vs H Q E h => ?_) (fun cdv A outer s H vs Q E hr h => ?_)
  · obtain ⟨_, _, ⟨_, _, _, _, rfl, _⟩, _⟩ := h
    rfl
  · obtain ⟨t, _, ⟨v, ns, l, m, rfl, ⟨a, rfl, ha⟩, rfl, hm, rfl⟩, k⟩ := h
    refine ⟨_, pss_cons (ps_if (pt_not (pt_val (pe_call GR hr (by rfl) R.g R.F.kp R.b .nil pass0 (pa_cons (pv 0) (pa_cons (pv 1) pa_nil))))) pss_never pss_nil)
      (pss_cons (ps_for PassesOwn.never rfl (pi_sq (pv 0)) (pg_name (i := 3) scMap.nd rfl (Or.inl rfl))
        (pss_one (ps_if (PW.pt (pw_or (pt_not (pt_val (pe_callB call_isi (by rfl) T.T.isi (by decide +kernel) (pa_cons (pv 3) (pa_cons (pe_bltn (v := .ty "int") (by rfl) T.T.int (by decide +kernel) rfl) pa_nil)))))
          (pw_or (pt_val (pe_callB call_isi (by rfl) T.T.isi (by decide +kernel) (pa_cons (pv 3) (pa_cons (pe_bltn (v := .ty "bool") (by rfl) T.T.bool (by decide +kernel) rfl) pa_nil))))
          (pw_or1 (pt_not (pt_chain op_le op_lt pe_int (pv 3) (pv 2))))))) pss_never pss_nil)))
      (pss_one (ps_ret pe_bl))), ?_⟩
    have li : (iV ns).length = ns.length := by unfold iV; rw [List.length_map]
    refine ⟨_, rfl, _, rfl, t, _, ⟨a, iV ns, _, rfl, ha, rfl⟩, fun v H1 s1 e => ⟨true, by rw [e, li, decide_eq_true rfl], iteF ?_⟩⟩
    refine for_sq (xs := iV ns) (ha.mono t s1) (fun Q q => ⟨_, rfl, q⟩) (fun i σ H' => ∃ v3 : Option V, σ = [some (.ref a), some (.int (ns.length : Nat)), some (.int m), v3] ∧ Sm P H1 H') ⟨none, rfl, Sm.refl s1.2⟩ (fun i σ' H' ⟨_, _, s⟩ => sq_keep s1.2 s) ?_ ?_
    · rintro i x σ H' hx ⟨v3, rfl, s2⟩
      obtain ⟨n, hn, rfl⟩ := iV_at hx
      have nm := hm n (List.mem_of_getElem? hn)
      refine ⟨_, rfl, _, _, _, _, true, rfl, .ty _, .base (.int n), kit_ty (by decide +kernel), true, rfl, iteF ?_⟩
      refine ⟨_, rfl, _, _, _, _, false, rfl, .ty _, .base (.int n), kit_ty (by decide +kernel), false, rfl, iteF ?_⟩
      refine ⟨_, rfl, _, _, rfl, rfl, _, rfl, ?_⟩
      rw [decide_eq_true (show (0 : Int) ≤ (n : Nat) by omega)]
      exact iteT ⟨_, rfl, _, _, rfl, rfl, true, congrArg V.bl (decide_eq_true nm), iteF ⟨_, rfl, s2⟩⟩
    · rintro σ H' ⟨v3, rfl, s2⟩
      exact k _ _ (s1.trans s2) rfl
end
end K6

set_option Elab.async false
set_option linter.all false
set_option maxRecDepth 100000
set_option maxHeartbeats 4000000
namespace K6
open PySem PySem.Spec PyProof.Rows L2 So
def mV (rs : List (List Nat)) : List (List V) := rs.map iV
def aV (rs : List (List Bool)) : List (List V) := rs.map bV
theorem paired_map {α β : Type} {f : α → β} {R : V → β → Prop} : ∀ {xs : List V} {rs : List α} {i : Nat} {x : V}, Paired R xs (rs.map f) → xs[i]? = some x → ∃ r, rs[i]? = some r ∧ R x (f r)
  | xs, rs, i, x, p, h => by
    obtain ⟨y, h1, h2⟩ := paired_get p h
    rw [List.getElem?_map] at h1
    cases e : rs[i]? with
    | none =>
      rw [e] at h1
      cases h1
    | some r =>
      rw [e] at h1
      cases h1
      exact ⟨r, rfl, h2⟩
section
variable {Pg : Program} {w : World} {K : PySem.W.Frag} {mg : Str → Option Value} {base : Heap} {P : Addr}
/-! ### are_maps -/
abbrev sMps : Stmt := top 28
theorem scMps : FnScope ["value", "length", "many", "row"] ["value", "length", "many"] (defScope sMps) := ⟨rfl, rfl, rfl, by decide +kernel, rfl, by decide +kernel, by decide +kernel⟩
/-- so many maps of m states -/
def okMaps (rs : List (List Nat)) (m : Nat) : Prop := ∀ r ∈ rs, r.length = m ∧ ∀ n ∈ r, n < m
def spMps (K : PySem.W.Frag) (P : Addr) : Sp := Pu P fun vs H R => ∃ (v : V) (rs : List (List Nat)) (l : Int) (m : Nat), vs = [v, .int l, .int (m : Nat)] ∧ RowsS (Sq K) H v (mV rs) ∧ l = (rs.length : Nat) ∧ okMaps rs m ∧ R = fun v _ => v = .bl true
theorem ok_mps {f fR fS fM : Addr} {fd fdR fdS fdM : FuncData} (F : Fun K "are_maps" "are_maps" sMps f fd) (T : Ty K mg) (R : Df K mg "is_row_of" sRow ["value", "many"] fR fdR) (S : Df K mg "is_sequence" sSeq ["value"] fS fdS)
    (M : Df K mg "is_map" sMap ["value", "length", "many"] fM fdM) : FnOk Pg w K mg base CX0 4 f fd ["value", "length", "many"] (spMps K P) := by
  have GR : FnOk Pg w K mg base CX0 2 fR fdR ["value", "many"] (spRow2 K P) := ok_row2 R.F T.T S
  have GM : FnOk Pg w K mg base CX0 3 fM fdM ["value", "length", "many"] (spMap K P) := ok_map M.F T R S
  refine F.ok scMps (fun vs H Q E h => ?_) (fun cdv A outer s H vs Q E hr h => ?_)
  · obtain ⟨_, _, ⟨_, _, _, _, rfl, _⟩, _⟩ := h
    rfl
  · obtain ⟨t, _, ⟨v, rs, l, m, rfl, ⟨a, xs, rfl, ha, hp⟩, rfl, hm, rfl⟩, k⟩ := h
    refine ⟨_, pss_cons (ps_if (pt_not (pt_val (pe_call GR (hr.mono (by decide)) (by rfl) R.g R.F.kp R.b .nil pass0 (pa_cons (pv 0) (pa_cons (pv 1) pa_nil))))) pss_never pss_nil)
      (pss_cons (ps_for PassesOwn.never rfl (pi_sq (pv 0)) (pg_name (i := 3) scMps.nd rfl (Or.inl rfl))
        (pss_one (ps_if (pt_not (pt_val (pe_call GM hr (by rfl) M.g M.F.kp M.b .nil pass0 (pa_cons (pv 3) (pa_cons (pv 2) (pa_cons (pv 2) pa_nil)))))) pss_never pss_nil)))
      (pss_one (ps_ret pe_bl))), ?_⟩
    have lx : xs.length = rs.length := by
      have := Paired.length hp
      unfold mV at this
      rw [List.length_map] at this
      exact this
    refine ⟨_, rfl, _, rfl, t, _, ⟨a, xs, _, rfl, ha, rfl⟩, fun v H1 s1 e => ⟨true, by rw [e, lx, decide_eq_true rfl], iteF ?_⟩⟩
    refine for_sq (xs := xs) (ha.mono t s1) (fun Q q => ⟨_, rfl, q⟩) (fun i σ H' => ∃ v3 : Option V, σ = [some (.ref a), some (.int (rs.length : Nat)), some (.int (m : Nat)), v3] ∧ Sm P H1 H') ⟨none, rfl, Sm.refl s1.2⟩ (fun i σ' H' ⟨_, _, s⟩ => sq_keep s1.2 s) ?_ ?_
    · rintro i x σ H' hx ⟨v3, rfl, s2⟩
      obtain ⟨r, hr1, hI⟩ := paired_map hp hx
      obtain ⟨rl, rn⟩ := hm r (List.mem_of_getElem? hr1)
      have s12 := s1.trans s2
      refine ⟨_, rfl, _, rfl, _, rfl, s2.2, _, ⟨x, r, _, _, rfl, hI.mono mo_sq t s12, by rw [rl], fun n hn => by have := rn n hn; omega, rfl⟩, fun v H2 s3 e => ⟨true, e, iteF ⟨_, rfl, s2.trans s3⟩⟩⟩
    · rintro σ H' ⟨v3, rfl, s2⟩
      exact k _ _ (s1.trans s2) rfl
/-! ### as_tuples -/
abbrev sAst : Stmt := top 33
theorem scAst : FnScope ["rows", "row"] ["rows"] (defScope sAst) := ⟨rfl, rfl, rfl, by decide +kernel, rfl, by decide +kernel, by decide +kernel⟩
def spAst (K : PySem.W.Frag) (P : Addr) : Sp := Pu P fun vs H R => ∃ (v : V) (yss : List (List V)), vs = [v] ∧ RowsS (Sq K) H v yss ∧ yss.length ≤ 1000 ∧ R = fun v H' => RowsS (SqT K) H' v yss
theorem ok_ast {f : Addr} {fd : FuncData} (F : Fun K "as_tuples" "as_tuples" sAst f fd) (T : Ty K mg) : FnOk Pg w K mg base CX0 1 f fd ["rows"] (spAst K P) := by
  refine F.ok scAst (fun vs H Q E h => ?_) (fun cdv A outer s H vs Q E hr h => ?_)
  · obtain ⟨_, _, ⟨_, _, rfl, _⟩, _⟩ := h
    rfl
  · obtain ⟨t, _, ⟨v, yss, rfl, ⟨a, xs, rfl, ha, hp⟩, hl, rfl⟩, k⟩ := h
    refine ⟨_, pss_one (ps_ret (pe_tupleOf (by rfl) T.T.tuple (pe_lc (own := [("row", 1)]) (g := gName 1) (tt := tYes) rfl scAst.nd (pi_sq (pv 0)) (blkOk_by (N := ["rows", "row"]) (sc := defScope sAst) (by decide +kernel)) (fun _ _ _ _ _ => pg_name (i := 1) scAst.nd rfl (Or.inl rfl)) (fun _ _ _ _ _ => pts_nil)
      (fun _ _ _ _ _ => show PE _ _ (tThen (tVar 1) (kTup K)) from pe_tupleOf (by rfl) T.T.tuple (pv 1))))), ?_⟩
    have lx : xs.length = yss.length := Paired.length hp
    refine ret_of (then_of ?_)
    refine lc_sq (xs := xs) ha (fun Q q => ⟨_, rfl, q⟩) (fun D i H' => ∃ zs, Sm P H H' ∧ H' D = some (.lst zs) ∧ zs.length = i ∧ Paired (ItS (SqT K) H') zs (yss.take i)) (fun D hD => ⟨[], Sm.new t hD, upd_same, rfl, .nil⟩)
      (fun D hD i H' ⟨_, s, _⟩ => sq_keep t s) ?_ ?_
    · rintro D hD i x H' hx ⟨zs, s1, q1, q2, q3⟩
      obtain ⟨ys, hy, b, rfl, hb⟩ := paired_get hp hx
      have hi : i < yss.length := (List.getElem?_eq_some_iff.mp hy).1
      have DP : D ≠ P := fun z => by
        obtain ⟨ps, q, _⟩ := t
        rw [z, q] at hD
        cases hD
      refine ⟨rfl, _, rfl, ?_⟩
      have fin : ∀ (z : Addr) (H2 : Hp), Sm P H' H2 → SqT K H2 z ys → ∃ acc, H2 D = some (.lst acc) ∧ acc.length < sizeLine ∧ ∃ zs, Sm P H (upd H2 D (.lst (acc ++ [.ref z]))) ∧ upd H2 D (.lst (acc ++ [.ref z])) D = some (.lst zs) ∧ zs.length = i + 1 ∧ Paired (ItS (SqT K) (upd H2 D (.lst (acc ++ [.ref z])))) zs (yss.take (i + 1)) := by
        intro z H2 s2 hz
        have q1' := s2.atL s1.2 q1
        have tp : Tp H2 (upd H2 D (.lst (zs ++ [.ref z]))) := Tp.lst q1'
        refine ⟨zs, q1', Nat.lt_of_lt_of_le (by omega : zs.length < 10000) (by decide), zs ++ [.ref z], (s1.trans s2).mut hD DP, upd_same, by rw [List.length_append, q2]; rfl, ?_⟩
        rw [take_snoc hy]
        exact paired_append (paired_mono (fun _ _ ⟨b, e, h⟩ => ⟨b, e, tp.sq (s2.tup s1.2 h)⟩) q3) (.cons ⟨z, rfl, tp.sq hz⟩ .nil)
      rcases hb with hb | hb
      · exact .inr ⟨b, ys, rfl, s1.tup t hb, fin b H' (Sm.refl s1.2) (s1.tup t hb)⟩
      · exact .inl ⟨b, ys, rfl, s1.lst t hb, fun z hz => fin z _ (Sm.new s1.2 hz) (.inl (.inl upd_same))⟩
    · rintro D hD H' ⟨zs, s1, q1, q2, q3⟩
      rw [lx, List.take_length] at q3
      refine .inl ⟨D, zs, rfl, SqL.of q1, fun q hq => ?_⟩
      exact k _ _ (s1.trans (Sm.new s1.2 hq)) ⟨q, zs, rfl, .inl (.inl upd_same), paired_mono (fun _ _ h => h.mono mo_tup s1.2 (Sm.new s1.2 hq)) q3⟩
/-! ### is_answer, are_answers -/
abbrev sIan : Stmt := top 30
theorem scIan : FnScope ["value", "length", "word"] ["value", "length"] (defScope sIan) := ⟨rfl, rfl, rfl, by decide +kernel, rfl, by decide +kernel, by decide +kernel⟩
def spIan (K : PySem.W.Frag) (P : Addr) : Sp := Pu P fun vs H R => ∃ (v : V) (bs : List Bool), vs = [v, .int (bs.length : Nat)] ∧ ItS (Sq K) H v (bV bs) ∧ bs.length ≤ 1000 ∧ R = fun v _ => v = .bl true
theorem bV_at {bs : List Bool} {i : Nat} {x : V} (h : (bV bs)[i]? = some x) : ∃ b, x = .bl b := by
  unfold bV at h
  rw [List.getElem?_map] at h
  cases e : bs[i]? with
  | none =>
    rw [e] at h
    cases h
  | some y =>
    rw [e] at h
    exact ⟨y, (Option.some.inj h).symm⟩
theorem ok_ian {f fR fS : Addr} {fd fdR fdS : FuncData} (F : Fun K "is_answer" "is_answer" sIan f fd) (T : Ty K mg) (R : Df K mg "is_row_of" sRow ["value", "many"] fR fdR) (S : Df K mg "is_sequence" sSeq ["value"] fS fdS) : FnOk Pg w K mg base CX0 3 f fd ["value", "length"] (spIan K P) := by
  have GR : FnOk Pg w K mg base CX0 2 fR fdR ["value", "many"] (spRow2 K P) := ok_row2 R.F T.T S
  refine F.ok scIan (fun vs H Q E h => ?_) (fun cdv A outer s H vs Q E hr h => ?_)
  · obtain ⟨_, _, ⟨_, _, rfl, _⟩, _⟩ := h
    rfl
  · obtain ⟨t, _, ⟨v, bs, rfl, ⟨a, rfl, ha⟩, hl, rfl⟩, k⟩ := h
    refine ⟨_, pss_one (ps_ret (pe_and (pe_call GR hr (by rfl) R.g R.F.kp R.b .nil pass0 (pa_cons (pv 0) (pa_cons (pv 1) pa_nil)))
      (pe_one (pe_callB (cr_all rfl) (by rfl) T.T.all (by decide +kernel) (pa_cons (pe_lc (own := [("word", 2)]) (g := gName 2) (tt := tYes) rfl scIan.nd (pi_sq (pv 0)) (blkOk_by (N := ["value", "length", "word"]) (sc := defScope sIan) (by decide +kernel)) (fun _ _ _ _ _ => pg_name (i := 2) scIan.nd rfl (Or.inl rfl)) (fun _ _ _ _ _ => pts_nil)
        (fun _ _ _ _ _ => show PE _ _ (tCB (rIsi K) (tCons (tVar 2) (tCons (tC (.ty "bool")) tNil))) from pe_callB call_isi (by rfl) T.T.isi (by decide +kernel) (pa_cons (pv 2) (pa_cons (pe_bltn (v := .ty "bool") (by rfl) T.T.bool (by decide +kernel) rfl) pa_nil)))) pa_nil))))), ?_⟩
    have lb : (bV bs).length = bs.length := by unfold bV; rw [List.length_map]
    refine ⟨_, rfl, _, rfl, t, _, ⟨a, bV bs, _, rfl, ha, rfl⟩, fun v H1 s1 e => ⟨true, by rw [e, lb, decide_eq_true rfl], iteT ?_⟩⟩
    refine cb1_of ?_
    refine lc_sq (xs := bV bs) (ha.mono t s1) (fun Q q => ⟨_, rfl, q⟩) (fun D i H' => Sm P H1 H' ∧ H' D = some (.lst ((List.replicate i true).map V.bl))) (fun D hD => ⟨Sm.new s1.2 hD, upd_same⟩)
      (fun D hD i H' ⟨s, _⟩ => sq_keep s1.2 s) ?_ ?_
    · rintro D hD i x H' hx ⟨s2, q1⟩
      obtain ⟨b, rfl⟩ := bV_at hx
      have hi : i < (bV bs).length := (List.getElem?_eq_some_iff.mp hx).1
      have DP : D ≠ P := fun z => by
        obtain ⟨ps, q, _⟩ := s1.2
        rw [z, q] at hD
        cases hD
      refine ⟨rfl, _, rfl, _, _, _, _, true, rfl, .ty _, .base (.bl b), kit_ty (by decide +kernel), _, q1, ?_, s2.mut hD DP, ?_⟩
      · rw [List.length_map, List.length_replicate]
        exact Nat.lt_of_lt_of_le (by omega : i < 10000) (by decide)
      · rw [upd_same, List.replicate_succ', List.map_append]
        rfl
    · rintro D hD H' ⟨s2, q1⟩
      refine ⟨D, _, rfl, SqL.of q1, ?_⟩
      have e : (List.replicate (bV bs).length true).all id = true := by
        rw [List.all_eq_true]
        intro x hx
        exact (List.mem_replicate.mp hx).2
      rw [e]
      exact k _ _ (s1.trans s2) rfl
end
end K6

set_option Elab.async false
set_option linter.all false
set_option maxRecDepth 100000
set_option maxHeartbeats 4000000
namespace K6
open PySem PySem.Spec PyProof.Rows L2 So
section
variable {Pg : Program} {w : World} {K : PySem.W.Frag} {mg : Str → Option Value} {base : Heap} {P : Addr}
theorem nPt {H : Hp} {a : Addr} (t : GxR.TabG H P) (e : H a = none) : a ≠ P := fun z => by
  obtain ⟨ps, q, _⟩ := t
  rw [z, q] at e
  cases e
/-! ### are_answers -/
abbrev sAan : Stmt := top 29
theorem scAan : FnScope ["value", "many", "one"] ["value", "many"] (defScope sAan) := ⟨rfl, rfl, rfl, by decide +kernel, rfl, by decide +kernel, by decide +kernel⟩
def okAns (an : List (List Bool)) (k : Nat) : Prop := an ≠ [] ∧ an.length ≤ 200 ∧ 1 ≤ k ∧ k ≤ 8 ∧ ∀ r ∈ an, r.length = k
def spAan (K : PySem.W.Frag) (P : Addr) : Sp := Pu P fun vs H R => ∃ (v : V) (an : List (List Bool)) (k : Nat), vs = [v, .int (an.length : Nat)] ∧ RowsS (Sq K) H v (aV an) ∧ okAns an k ∧ R = fun v _ => v = .bl true
theorem ok_aan {f fR fS fA : Addr} {fd fdR fdS fdA : FuncData} (F : Fun K "are_answers" "are_answers" sAan f fd) (T : Ty K mg) (R : Df K mg "is_row_of" sRow ["value", "many"] fR fdR) (S : Df K mg "is_sequence" sSeq ["value"] fS fdS)
    (A : Df K mg "is_answer" sIan ["value", "length"] fA fdA) : FnOk Pg w K mg base CX0 4 f fd ["value", "many"] (spAan K P) := by
  have GR : FnOk Pg w K mg base CX0 2 fR fdR ["value", "many"] (spRow2 K P) := ok_row2 R.F T.T S
  have GS : FnOk Pg w K mg base CX0 1 fS fdS ["value"] (spSeq2 K P) := ok_seq2 S.F T.T
  have GA : FnOk Pg w K mg base CX0 3 fA fdA ["value", "length"] (spIan K P) := ok_ian A.F T R S
  obtain ⟨_, tw⟩ := T.wsm
  refine F.ok scAan (fun vs H Q E h => ?_) (fun cdv A' outer s H vs Q E hr h => ?_)
  · obtain ⟨_, _, ⟨_, _, _, rfl, _⟩, _⟩ := h
    rfl
  · obtain ⟨t, _, ⟨v, an, k0, rfl, ⟨a, xs, rfl, ha, hp⟩, ⟨o1, o2, o3, o4, o5⟩, rfl⟩, k⟩ := h
    refine ⟨_, pss_cons (ps_if (PW.pt (pw_or (pt_not (pt_val (pe_call GR (hr.mono (by decide)) (by rfl) R.g R.F.kp R.b .nil pass0 (pa_cons (pv 0) (pa_cons (pv 1) pa_nil)))))
        (pw_or (pt_not (pt_val (pe_call GS (hr.mono (by decide)) (by rfl) S.g S.F.kp S.b .nil pass0 (pa_cons (pe_ix ix_sq (pv 0) pe_int (fun _ _ => rfl)) pa_nil))))
        (pw_or1 (pt_not (pt_chain op_le op_le pe_int (pe_callB call_len_seq (by rfl) T.T.len (by decide +kernel) (pa_cons (pe_ix ix_sq (pv 0) pe_int (fun _ _ => rfl)) pa_nil)) (pe_glob (v := .int 8) (by rfl) tw ⟨_, rfl⟩))))))) pss_never pss_nil)
      (pss_one (ps_ret (pe_callB (cr_all rfl) (by rfl) T.T.all (by decide +kernel) (pa_cons (pe_lc (own := [("one", 2)]) (g := gName 2) (tt := tYes) rfl scAan.nd (pi_sq (pv 0)) (blkOk_by (N := ["value", "many", "one"]) (sc := defScope sAan) (by decide +kernel)) (fun _ _ _ _ _ => pg_name (i := 2) scAan.nd rfl (Or.inl rfl)) (fun _ _ _ _ _ => pts_nil)
        (fun _ _ _ _ _ => show PE _ _ (tCall (spIan K P) [] E0 (tCons (tVar 2) (tCons (tCB (fun xs H Q => ∃ p ys, xs = [.ref p] ∧ (SqL K H p ys ∨ SqT K H p ys) ∧ Q (.int ys.length) H) (tCons (tOp (fun x y H Q => rIxT K x y H Q ∨ rIxL K x y H Q) (tVar 0) (tC (.int 0))) tNil)) tNil))) from
          pe_call GA hr (by rfl) A.g A.F.kp A.b .nil pass0 (pa_cons (pv 2) (pa_cons (pe_callB call_len_seq (by rfl) T.T.len (by decide +kernel) (pa_cons (pe_ix ix_sq (pv 0) pe_int (fun _ _ => rfl)) pa_nil)) pa_nil)))) pa_nil)))), ?_⟩
    have lx : xs.length = an.length := by
      have := Paired.length hp
      unfold aV at this
      rw [List.length_map] at this
      exact this
    obtain ⟨r0, hr0⟩ : ∃ r0, an[0]? = some r0 := by
      cases an with
      | nil => exact absurd rfl o1
      | cons r0 an => exact ⟨r0, rfl⟩
    obtain ⟨x0, hx0⟩ : ∃ x0, xs[0]? = some x0 := by
      have : 0 < xs.length := by
        rw [lx]
        exact (List.getElem?_eq_some_iff.mp hr0).1
      exact ⟨xs[0], List.getElem?_eq_getElem this⟩
    obtain ⟨r0', hr0', b0, rfl, hb0⟩ := paired_map hp hx0
    cases hr0.symm.trans hr0'
    have lr0 : (bV r0).length = k0 := by
      unfold bV
      rw [List.length_map]
      exact o5 r0 (List.mem_of_getElem? hr0)
    refine ⟨_, rfl, _, rfl, t, _, ⟨a, xs, _, rfl, ha, rfl⟩, fun v H1 s1 e => ⟨true, by rw [e, lx, decide_eq_true rfl], iteF ?_⟩⟩
    refine ⟨_, rfl, at_sq (ha.mono t s1) (atI_nat (j := 0) hx0) ⟨s1.2, _, ⟨b0, bV r0, rfl, hb0.mono t s1, rfl⟩, fun v H2 s2 e => ⟨true, e, iteF ?_⟩⟩⟩
    have s12 := s1.trans s2
    refine ⟨_, rfl, at_sq (ha.mono t s12) (atI_nat (j := 0) hx0) ⟨b0, bV r0, rfl, len_sq (hb0.mono t s12), _, _, rfl, rfl, _, rfl, ?_⟩⟩
    rw [lr0, decide_eq_true (show (1 : Int) ≤ (k0 : Nat) by omega)]
    refine iteT ⟨_, _, rfl, rfl, true, congrArg V.bl (decide_eq_true (show ((k0 : Nat) : Int) ≤ 8 by omega)), iteF ?_⟩
    refine next_of ?_
    dsimp only
    refine ret_of (cb1_of ?_)
    refine lc_sq (xs := xs) (ha.mono t s12) (fun Q q => ⟨_, rfl, q⟩) (fun D i H' => Sm P H2 H' ∧ H' D = some (.lst ((List.replicate i true).map V.bl))) (fun D hD => ⟨Sm.new s12.2 hD, upd_same⟩)
      (fun D hD i H' ⟨s, _⟩ => sq_keep s12.2 s) ?_ ?_
    · rintro D hD i x H' hx ⟨s3, q1⟩
      obtain ⟨r, hr1, b, rfl, hb⟩ := paired_map hp hx
      have hi : i < an.length := (List.getElem?_eq_some_iff.mp hr1).1
      have s13 := s12.trans s3
      have lr : r.length = k0 := o5 r (List.mem_of_getElem? hr1)
      refine ⟨rfl, _, rfl, _, rfl, at_sq (ha.mono t s13) (atI_nat (j := 0) hx0) ⟨b0, bV r0, rfl, len_sq (hb0.mono t s13), ?_⟩⟩
      refine ⟨s13.2, _, ⟨.ref b, r, by rw [lr0, lr]; rfl, ⟨b, rfl, hb.mono t s13⟩, by omega, rfl⟩, fun v H4 s4 e => ?_⟩
      subst e
      have q1' := s4.atL s13.2 q1
      refine ⟨_, q1', ?_, (s3.trans s4).mut hD (nPt s12.2 hD), ?_⟩
      · rw [List.length_map, List.length_replicate]
        exact Nat.lt_of_lt_of_le (by omega : i < 10000) (by decide)
      · rw [upd_same, List.replicate_succ', List.map_append]
        rfl
    · rintro D hD H' ⟨s3, q1⟩
      refine ⟨D, _, rfl, SqL.of q1, ?_⟩
      have e : (List.replicate xs.length true).all id = true := by
        rw [List.all_eq_true]
        intro x hx
        exact (List.mem_replicate.mp hx).2
      rw [e]
      exact k _ _ (s12.trans s3) rfl
/-! ### are_inners, are_tops -/
abbrev sInn : Stmt := top 31
theorem scInn : FnScope ["value", "labels", "texts", "many", "starts", "by_text", "children"] ["value", "labels", "texts"] (defScope sInn) := ⟨rfl, rfl, rfl, by decide +kernel, rfl, by decide +kernel, by decide +kernel⟩
/-- the inner part: m states, its starts, its maps -/
structure Inn where
  m : Nat
  st : List Nat
  it : List (List Nat)
  ic : List (List Nat)
def Inn.ok (I : Inn) (l x : Nat) : Prop := 1 ≤ I.m ∧ I.m ≤ 200 ∧ I.st.length = l + 1 ∧ (∀ n ∈ I.st, n < I.m) ∧ I.it.length = x + 1 ∧ okMaps I.it I.m ∧ I.ic.length = I.m ∧ okMaps I.ic I.m
def InnS (S : Hp → Addr → List V → Prop) (H : Hp) (v : V) (I : Inn) : Prop := ∃ (a : Addr) (vs vt vc : V), v = .ref a ∧ S H a [.int (I.m : Nat), vs, vt, vc] ∧ ItS S H vs (iV I.st) ∧ RowsS S H vt (mV I.it) ∧ RowsS S H vc (mV I.ic)
def spInn (K : PySem.W.Frag) (P : Addr) : Sp := Pu P fun vs H R => ∃ (v : V) (la tx : Addr) (ls xs : List V) (I : Inn), vs = [v, .ref la, .ref tx] ∧ InnS (Sq K) H v I ∧ Sq K H la ls ∧ Sq K H tx xs ∧ I.ok ls.length xs.length ∧ R = fun v _ => v = .bl true
theorem ok_inn {f fR fS fM fMs fN fC : Addr} {fd fdR fdS fdM fdMs fdN fdC : FuncData} (F : Fun K "are_inners" "are_inners" sInn f fd) (T : Ty K mg) (R : Df K mg "is_row_of" sRow ["value", "many"] fR fdR) (S : Df K mg "is_sequence" sSeq ["value"] fS fdS)
    (M : Df K mg "is_map" sMap ["value", "length", "many"] fM fdM) (Ms : Df K mg "are_maps" sMps ["value", "length", "many"] fMs fdMs) (N : Df K mg "is_number" sNum ["value"] fN fdN) (C : Df K mg "is_state_count" sStc ["value"] fC fdC) :
    FnOk Pg w K mg base CX0 5 f fd ["value", "labels", "texts"] (spInn K P) := by
  have GR : FnOk Pg w K mg base CX0 2 fR fdR ["value", "many"] (spRow2 K P) := ok_row2 R.F T.T S
  have GM : FnOk Pg w K mg base CX0 3 fM fdM ["value", "length", "many"] (spMap K P) := ok_map M.F T R S
  have GMs : FnOk Pg w K mg base CX0 4 fMs fdMs ["value", "length", "many"] (spMps K P) := ok_mps Ms.F T R S M
  have GC : FnOk Pg w K mg base CX0 2 fC fdC ["value"] (spStc P) := ok_stc C.F T N
  refine F.ok scInn (fun vs H Q E h => ?_) (fun cdv A' outer s H vs Q E hr h => ?_)
  · obtain ⟨_, _, ⟨_, _, _, _, _, _, rfl, _⟩, _⟩ := h
    rfl
  · obtain ⟨t, _, ⟨v, la, tx, ls, xs, I, rfl, ⟨a, v1, v2, v3, rfl, ha, h1, h2, h3⟩, hla, htx, ⟨o1, o2, o3, o4, o5, o6, o7, o8⟩, rfl⟩, k⟩ := h
    have r2 : Room 2 _ := hr.mono (by decide)
    have r3 : Room 3 _ := hr.mono (by decide)
    refine ⟨_, pss_cons (ps_if (pt_not (pt_val (pe_call GR r2 (by rfl) R.g R.F.kp R.b .nil pass0 (pa_cons (pv 0) (pa_cons pe_int pa_nil))))) pss_never pss_nil)
      (pss_cons (ps_asg (pv 0) (pg_sq rfl (pgs_cons (pg_name (i := 3) scInn.nd rfl (.inl rfl)) (pgs_cons (pg_name (i := 4) scInn.nd rfl (.inl rfl)) (pgs_cons (pg_name (i := 5) scInn.nd rfl (.inl rfl)) (pgs_cons (pg_name (i := 6) scInn.nd rfl (.inl rfl)) pgs_nil))))))
      (pss_cons (ps_if (PW.pt (pw_or (pt_not (pt_val (pe_call GC r2 (by rfl) C.g C.F.kp C.b .nil pass0 (pa_cons (pv 3) pa_nil))))
          (pw_or1 (pt_not (pt_val (pe_call GM r3 (by rfl) M.g M.F.kp M.b .nil pass0 (pa_cons (pv 4) (pa_cons (pe_op op_add (pe_callB call_len_seq (by rfl) T.T.len (by decide +kernel) (pa_cons (pv 1) pa_nil)) pe_int) (pa_cons (pv 3) pa_nil))))))))) pss_never pss_nil)
      (pss_one (ps_ret (pe_and (pe_call GMs hr (by rfl) Ms.g Ms.F.kp Ms.b .nil pass0 (pa_cons (pv 5) (pa_cons (pe_op op_add (pe_callB call_len_seq (by rfl) T.T.len (by decide +kernel) (pa_cons (pv 2) pa_nil)) pe_int) (pa_cons (pv 3) pa_nil))))
        (pe_one (pe_call GMs hr (by rfl) Ms.g Ms.F.kp Ms.b .nil pass0 (pa_cons (pv 6) (pa_cons (pv 3) (pa_cons (pv 3) pa_nil))))))))))
      , ?_⟩
    refine ⟨_, rfl, t, _, ⟨a, _, 4, rfl, ha, rfl⟩, fun v H1 s1 e => ⟨true, e, iteF ?_⟩⟩
    refine ⟨_, rfl, a, _, rfl, ha.mono t s1, rfl, _, _, rfl, _, _, rfl, _, _, rfl, _, _, rfl, rfl, ?_⟩
    refine ⟨_, rfl, s1.2, _, ⟨_, rfl, by omega, by omega, rfl⟩, fun v H2 s2 e => ⟨true, e, iteF ?_⟩⟩
    have s12 := s1.trans s2
    refine ⟨_, rfl, _, rfl, la, ls, rfl, len_sq (hla.mono t s12), _, _, rfl, rfl, _, rfl, s12.2, _, ⟨_, I.st, _, _, rfl, h1.mono mo_sq t s12, by rw [o3]; rfl, fun n hn => by have := o4 n hn; omega, rfl⟩, fun v H3 s3 e => ⟨true, e, iteF ?_⟩⟩
    have s13 := s12.trans s3
    refine ⟨_, rfl, _, rfl, tx, xs, rfl, len_sq (htx.mono t s13), _, _, rfl, rfl, _, rfl, s13.2, _, ⟨_, I.it, _, I.m, rfl, h2.mono mo_sq t s13, by rw [o5]; rfl, o6, rfl⟩, fun v H4 s4 e => ⟨true, e, iteT ?_⟩⟩
    have s14 := s13.trans s4
    exact ⟨_, rfl, _, rfl, _, rfl, s14.2, _, ⟨_, I.ic, _, I.m, rfl, h3.mono mo_sq t s14, by rw [o7], o8, rfl⟩, fun v H5 s5 e => k _ _ (s14.trans s5) e⟩
/-! ### are_tops -/
abbrev sTop : Stmt := top 32
theorem scTop : FnScope ["value", "texts", "inner_many", "many", "start", "by_text", "children", "answers"] ["value", "texts", "inner_many"] (defScope sTop) := ⟨rfl, rfl, rfl, by decide +kernel, rfl, by decide +kernel, by decide +kernel⟩
structure Tps where
  n : Nat
  s : Nat
  tt : List (List Nat)
  tc : List (List Nat)
  an : List (List Bool)
def Tps.ok (I : Tps) (x m : Nat) : Prop := 1 ≤ I.n ∧ I.n ≤ 200 ∧ I.s < I.n ∧ I.tt.length = x + 1 ∧ okMaps I.tt I.n ∧ I.tc.length = m ∧ okMaps I.tc I.n ∧ I.an.length = I.n ∧ ∃ k, okAns I.an k
def TpsS (S : Hp → Addr → List V → Prop) (H : Hp) (v : V) (I : Tps) : Prop := ∃ (a : Addr) (vt vc va : V), v = .ref a ∧ S H a [.int (I.n : Nat), .int (I.s : Nat), vt, vc, va] ∧ RowsS S H vt (mV I.tt) ∧ RowsS S H vc (mV I.tc) ∧ RowsS S H va (aV I.an)
def spTop (K : PySem.W.Frag) (P : Addr) : Sp := Pu P fun vs H R => ∃ (v : V) (tx : Addr) (xs : List V) (I : Tps) (m : Nat), vs = [v, .ref tx, .int (m : Nat)] ∧ TpsS (Sq K) H v I ∧ Sq K H tx xs ∧ I.ok xs.length m ∧ R = fun v _ => v = .bl true
theorem ok_top {f fR fS fM fMs fN fC fB fA fAs : Addr} {fd fdR fdS fdM fdMs fdN fdC fdB fdA fdAs : FuncData} (F : Fun K "are_tops" "are_tops" sTop f fd) (T : Ty K mg) (R : Df K mg "is_row_of" sRow ["value", "many"] fR fdR) (S : Df K mg "is_sequence" sSeq ["value"] fS fdS)
    (M : Df K mg "is_map" sMap ["value", "length", "many"] fM fdM) (Ms : Df K mg "are_maps" sMps ["value", "length", "many"] fMs fdMs) (N : Df K mg "is_number" sNum ["value"] fN fdN) (C : Df K mg "is_state_count" sStc ["value"] fC fdC)
    (B : Df K mg "is_number_below" sNub ["value", "bound"] fB fdB) (A : Df K mg "is_answer" sIan ["value", "length"] fA fdA) (As : Df K mg "are_answers" sAan ["value", "many"] fAs fdAs) :
    FnOk Pg w K mg base CX0 5 f fd ["value", "texts", "inner_many"] (spTop K P) := by
  have GR : FnOk Pg w K mg base CX0 2 fR fdR ["value", "many"] (spRow2 K P) := ok_row2 R.F T.T S
  have GMs : FnOk Pg w K mg base CX0 4 fMs fdMs ["value", "length", "many"] (spMps K P) := ok_mps Ms.F T R S M
  have GC : FnOk Pg w K mg base CX0 2 fC fdC ["value"] (spStc P) := ok_stc C.F T N
  have GB : FnOk Pg w K mg base CX0 2 fB fdB ["value", "bound"] (spNub P) := ok_nub B.F T.T N
  have GA : FnOk Pg w K mg base CX0 4 fAs fdAs ["value", "many"] (spAan K P) := ok_aan As.F T R S A
  refine F.ok scTop (fun vs H Q E h => ?_) (fun cdv A' outer s H vs Q E hr h => ?_)
  · obtain ⟨_, _, ⟨_, _, _, _, _, rfl, _⟩, _⟩ := h
    rfl
  · obtain ⟨t, _, ⟨v, tx, xs, I, m, rfl, ⟨a, v2, v3, v4, rfl, ha, h2, h3, h4⟩, htx, ⟨o1, o2, o3, o4, o5, o6, o7, o8, k0, o9⟩, rfl⟩, k⟩ := h
    have r2 : Room 2 _ := hr.mono (by decide)
    refine ⟨_, pss_cons (ps_if (pt_not (pt_val (pe_call GR r2 (by rfl) R.g R.F.kp R.b .nil pass0 (pa_cons (pv 0) (pa_cons pe_int pa_nil))))) pss_never pss_nil)
      (pss_cons (ps_asg (pv 0) (pg_sq rfl (pgs_cons (pg_name (i := 3) scTop.nd rfl (.inl rfl)) (pgs_cons (pg_name (i := 4) scTop.nd rfl (.inl rfl)) (pgs_cons (pg_name (i := 5) scTop.nd rfl (.inl rfl)) (pgs_cons (pg_name (i := 6) scTop.nd rfl (.inl rfl)) (pgs_cons (pg_name (i := 7) scTop.nd rfl (.inl rfl)) pgs_nil)))))))
      (pss_cons (ps_if (PW.pt (pw_or (pt_not (pt_val (pe_call GC r2 (by rfl) C.g C.F.kp C.b .nil pass0 (pa_cons (pv 3) pa_nil))))
          (pw_or1 (pt_not (pt_val (pe_call GB r2 (by rfl) B.g B.F.kp B.b .nil pass0 (pa_cons (pv 4) (pa_cons (pv 3) pa_nil)))))))) pss_never pss_nil)
      (pss_cons (ps_if (PW.pt (pw_or (pt_not (pt_val (pe_call GMs hr (by rfl) Ms.g Ms.F.kp Ms.b .nil pass0 (pa_cons (pv 5) (pa_cons (pe_op op_add (pe_callB call_len_seq (by rfl) T.T.len (by decide +kernel) (pa_cons (pv 1) pa_nil)) pe_int) (pa_cons (pv 3) pa_nil))))))
          (pw_or1 (pt_not (pt_val (pe_call GMs hr (by rfl) Ms.g Ms.F.kp Ms.b .nil pass0 (pa_cons (pv 6) (pa_cons (pv 2) (pa_cons (pv 3) pa_nil))))))))) pss_never pss_nil)
      (pss_one (ps_ret (pe_call GA hr (by rfl) As.g As.F.kp As.b .nil pass0 (pa_cons (pv 7) (pa_cons (pv 3) pa_nil)))))))), ?_⟩
    refine ⟨_, rfl, t, _, ⟨a, _, 5, rfl, ha, rfl⟩, fun v H1 s1 e => ⟨true, e, iteF ?_⟩⟩
    refine ⟨_, rfl, a, _, rfl, ha.mono t s1, rfl, _, _, rfl, _, _, rfl, _, _, rfl, _, _, rfl, _, _, rfl, rfl, ?_⟩
    refine ⟨_, rfl, s1.2, _, ⟨_, rfl, by omega, by omega, rfl⟩, fun v H2 s2 e => ⟨true, e, iteF ?_⟩⟩
    have s12 := s1.trans s2
    refine ⟨_, rfl, _, rfl, s12.2, _, ⟨_, _, rfl, by omega, by omega, rfl⟩, fun v H3 s3 e => ⟨true, e, iteF ?_⟩⟩
    have s13 := s12.trans s3
    refine ⟨_, rfl, _, rfl, tx, xs, rfl, len_sq (htx.mono t s13), _, _, rfl, rfl, _, rfl, s13.2, _, ⟨_, I.tt, _, I.n, rfl, h2.mono mo_sq t s13, by rw [o4]; rfl, o5, rfl⟩, fun v H4 s4 e => ⟨true, e, iteF ?_⟩⟩
    have s14 := s13.trans s4
    refine ⟨_, rfl, _, rfl, _, rfl, s14.2, _, ⟨_, I.tc, _, I.n, rfl, h3.mono mo_sq t s14, by rw [o6], o7, rfl⟩, fun v H5 s5 e => ⟨true, e, iteF ?_⟩⟩
    have s15 := s14.trans s5
    exact ⟨_, rfl, _, rfl, s15.2, _, ⟨v4, I.an, k0, by rw [o8]; rfl, h4.mono mo_sq t s15, o9, rfl⟩, fun v H6 s6 e => k _ _ (s15.trans s6) e⟩
end
end K6

set_option Elab.async false
set_option linter.all false
set_option maxRecDepth 100000
set_option maxHeartbeats 4000000
namespace K6
open PySem PySem.Spec PyProof.Rows L2 So RZ
theorem walk_zipT {K : PySem.W.Frag} {a b : Addr} {xs ys : List V} {n : Nat} (hn : n = min xs.length ys.length) : Walk (ItzT K a b) n (fun H => SqT K H a xs ∧ SqT K H b ys) (YPair (fun i => xs[i]?) (fun i => ys[i]?)) := by
  subst hn
  refine ⟨fun i _ hi q => ?_, fun _ q => ⟨xs, ys, q.1, q.2, by omega⟩, fun i H v H' _ q y => ?_⟩
  · have h1 : i < xs.length := by omega
    have h2 : i < ys.length := by omega
    exact ⟨xs, ys, xs[i], ys[i], q.1, q.2, by simp [h1], by simp [h2]⟩
  · obtain ⟨T, x, z, h1, h2, h3, h4, h5⟩ := y
    exact ⟨T, x, z, h1, h2, h3, h4 xs q.1, h5 ys q.2⟩
def asc : List Str → Bool
  | a :: b :: r => decide (a.cps.toList < b.cps.toList) && asc (b :: r)
  | _ => true
theorem asc_at : ∀ {L : List Str} {i : Nat} {x y : Str}, asc L = true → L[i]? = some x → L[i + 1]? = some y → decide (x.cps.toList < y.cps.toList) = true
  | a :: b :: r, 0, x, y, h, h1, h2 => by
    cases h1
    cases h2
    exact (Bool.and_eq_true_iff.mp (show (decide (a.cps.toList < b.cps.toList) && asc (b :: r)) = true from h)).1
  | a :: b :: r, i + 1, x, y, h, h1, h2 => asc_at (L := b :: r) (i := i) ((Bool.and_eq_true_iff.mp (show (decide (a.cps.toList < b.cps.toList) && asc (b :: r)) = true from h)).2) h1 h2
  | [a], i, x, y, _, _, h2 => by simp at h2
  | [], i, x, y, _, _, h2 => by simp at h2
def sV (L : List Str) : List V := L.map V.str
theorem sV_at {L : List Str} {i : Nat} {x : V} (h : (sV L)[i]? = some x) : ∃ z, L[i]? = some z ∧ x = .str z := by
  unfold sV at h
  rw [List.getElem?_map] at h
  cases e : L[i]? with
  | none =>
    rw [e] at h
    cases h
  | some y =>
    rw [e] at h
    exact ⟨y, rfl, (Option.some.inj h).symm⟩
theorem cut1 (xs : List V) : cutV xs (some 1) none = xs.drop 1 := by
  cases xs with
  | nil => rfl
  | cons x r => simp [cutV, HT.sIx]
section
variable {Pg : Program} {w : World} {K : PySem.W.Frag} {mg : Str → Option Value} {base : Heap} {P : Addr}
abbrev sAsc : Stmt := top 25
theorem scAsc : FnScope ["names", "one", "other"] ["names"] (defScope sAsc) := ⟨rfl, rfl, rfl, by decide +kernel, rfl, by decide +kernel, by decide +kernel⟩
def spAsc (K : PySem.W.Frag) (P : Addr) : Sp := Pu P fun vs H R => ∃ (v : V) (L : List Str), vs = [v] ∧ ItS (Sq K) H v (sV L) ∧ L.length ≤ 100 ∧ asc L = true ∧ R = fun v _ => v = .bl true
theorem ok_asc {f : Addr} {fd : FuncData} (F : Fun K "_is_ascending" "_is_ascending" sAsc f fd) (T : Ty K mg) : FnOk Pg w K mg base CX0 1 f fd ["names"] (spAsc K P) := by
  refine F.ok scAsc (fun vs H Q E h => ?_) (fun cdv A' outer s H vs Q E hr h => ?_)
  · obtain ⟨_, _, ⟨_, _, rfl, _⟩, _⟩ := h
    rfl
  · obtain ⟨t, _, ⟨v, L, rfl, ⟨a, rfl, ha⟩, hl, hasc, rfl⟩, k⟩ := h
    refine ⟨_, pss_one (ps_ret (pe_callB (cr_all rfl) (by rfl) T.T.all (by decide +kernel) (pa_cons (pe_lc (own := [("one", 1), ("other", 2)]) (g := gTup K 2 (gCons (gName 1) (gCons (gName 2) gNil))) (tt := tYes) rfl scAsc.nd
      (pi_zipA (by rfl) T.zip (pa_cons (pv 0) (pa_cons (pe_slice (SlR.or sl_tupA sl_list) (pv 0) (po_some pe_int) po_none) pa_nil))) (blkOk_by (N := ["names", "one", "other"]) (sc := defScope sAsc) (by decide +kernel))
      (fun _ _ _ _ _ => show PG _ _ (gTup K 2 (gCons (gName 1) (gCons (gName 2) gNil))) from pg_tup rfl (pgs_cons (pg_name (i := 1) scAsc.nd rfl (Or.inl rfl)) (pgs_cons (pg_name (i := 2) scAsc.nd rfl (Or.inl rfl)) pgs_nil))) (fun _ _ _ _ _ => pts_nil)
      (fun _ _ _ _ _ => pe_cmpR op_lt_str (pv 1) (pv 2) (nomark _))) pa_nil))), ?_⟩
    have lL : (sV L).length = L.length := by unfold sV; rw [List.length_map]
    refine ret_of (cb1_of ?_)
    refine ⟨_, rfl, _, rfl, 1, rfl, ?_⟩
    -- one turn
    have turn : ∀ (H1 : Hp), Sm P H H1 → ∀ (D : Addr), H1 D = none → ∀ (i : Nat) (x : V) (H2 H3 : Hp), i < min (sV L).length ((sV L).drop 1).length → (Sm P H1 H2 ∧ H2 D = some (.lst ((List.replicate i true).map V.bl))) → YPair (fun i => (sV L)[i]?) (fun i => ((sV L).drop 1)[i]?) i H2 x H3 →
        gTup K 2 (gCons (gName 1) (gCons (gName 2) gNil)) x (wipe (L2.start ["names", "one", "other"] [V.ref a]) [1, 2]) H3 fun σ2 H4 => wipe σ2 [1, 2] = wipe (L2.start ["names", "one", "other"] [V.ref a]) [1, 2] ∧ tYes σ2 H4 fun b H5 =>
          if b = true then tOp (fun x y H Q => ∃ i j, x = .str i ∧ y = .str j ∧ Q (.bl (decide (i.cps.toList < j.cps.toList))) H) (tVar 1) (tVar 2) σ2 H5 fun y H6 => ∃ acc, H6 D = some (.lst acc) ∧ acc.length < sizeLine ∧ (Sm P H1 (upd H6 D (.lst (acc ++ [y]))) ∧ upd H6 D (.lst (acc ++ [y])) D = some (.lst ((List.replicate (i + 1) true).map V.bl)))
          else (Sm P H1 H5 ∧ H5 D = some (.lst ((List.replicate (i + 1) true).map V.bl))) := by
      intro H1 s1 D hD i x H2 H3 hi ⟨s2, q1⟩ ⟨T1, y1, y2, e1, hT, e2, g1, g2⟩
      subst e1 e2
      obtain ⟨z1, hz1, rfl⟩ := sV_at (L := L) g1
      have g2' : ((sV L).drop 1)[i]? = some y2 := g2
      rw [List.getElem?_drop, Nat.add_comm] at g2'
      obtain ⟨z2, hz2, rfl⟩ := sV_at g2'
      have q2 : upd H2 T1 (.tup [V.str z1, V.str z2]) D = some (.lst ((List.replicate i true).map V.bl)) := by
        rw [upd_ne (ne_of_none q1 hT)]
        exact q1
      refine ⟨T1, _, rfl, .inl (.inl upd_same), rfl, _, _, rfl, _, _, rfl, rfl, rfl, _, rfl, _, rfl, _, _, rfl, rfl, _, q2, ?_, (s2.trans (Sm.new s2.2 hT)).mut hD (nPt s1.2 hD), ?_⟩
      · rw [List.length_map, List.length_replicate]
        exact Nat.lt_of_lt_of_le (by omega : i < 10000) (by decide)
      · rw [upd_same, asc_at hasc hz1 hz2, List.replicate_succ', List.map_append]
        rfl
    have fin : ∀ (H1 : Hp), Sm P H H1 → ∀ (D : Addr) (n : Nat) (H2 : Hp), (Sm P H1 H2 ∧ H2 D = some (.lst ((List.replicate n true).map V.bl))) → rAll K [.ref D] H2 Q := by
      intro H1 s1 D n H2 ⟨s2, q1⟩
      refine ⟨D, _, rfl, SqL.of q1, ?_⟩
      have e : (List.replicate n true).all id = true := by
        rw [List.all_eq_true]
        intro x hx
        exact (List.mem_replicate.mp hx).2
      rw [e]
      exact k _ _ (s1.trans s2) rfl
    rcases ha with ha | ha
    · refine .inl ⟨a, _, rfl, ha, fun z => ?_, fun z p hp => ?_⟩
      · have e : (sV L).drop 1 = sV L := by
          cases L with
          | nil => rfl
          | cons x r =>
            exfalso
            have z1 := z.1
            simp [sV, HT.sIx] at z1
        have hb : SqT K H a ((sV L).drop 1) := by rw [e]; exact ha
        refine ⟨a, a, sV L, (sV L).drop 1, rfl, .inr ⟨ha, hb, fun D hD => ?_⟩⟩
        refine lc_it (walk_zipT rfl) (fun i H2 => Sm P H H2 ∧ H2 D = some (HO.lst ((List.replicate i true).map V.bl))) ⟨Sm.new (Sm.refl t).2 hD, upd_same⟩ (fun i H2 _ p => ⟨p.1.tup (Sm.refl t).2 (ha), p.1.tup (Sm.refl t).2 (hb)⟩) (fun i x H2 H3 hi p y => ?_) (fun H2 p => ?_)
        · exact turn _ (Sm.refl t) D hD i x H2 H3 hi p y
        · exact fin _ (Sm.refl t) D _ H2 p
      · have s1 : Sm P H (upd H p (.tup (cutV (sV L) (some 1) none))) := Sm.new t hp
        have hb : SqT K (upd H p (HO.tup (cutV (sV L) (some 1) none))) p ((sV L).drop 1) := by rw [← cut1]; exact .inl (.inl upd_same)
        refine ⟨a, p, sV L, (sV L).drop 1, rfl, .inr ⟨s1.tup t ha, hb, fun D hD => ?_⟩⟩
        refine lc_it (walk_zipT rfl) (fun i H2 => Sm P (upd H p (HO.tup (cutV (sV L) (some 1) none))) H2 ∧ H2 D = some (HO.lst ((List.replicate i true).map V.bl))) ⟨Sm.new (s1).2 hD, upd_same⟩ (fun i H2 _ p => ⟨p.1.tup (s1).2 (s1.tup t ha), p.1.tup (s1).2 (hb)⟩) (fun i x H2 H3 hi p y => ?_) (fun H2 p => ?_)
        · exact turn _ (s1) D hD i x H2 H3 hi p y
        · exact fin _ (s1) D _ H2 p
    · refine .inr ⟨a, _, rfl, ha, fun p hp => ?_⟩
      have s1 : Sm P H (upd H p (.lst (cutV (sV L) (some 1) none))) := Sm.new t hp
      have hb : SqL K (upd H p (HO.lst (cutV (sV L) (some 1) none))) p ((sV L).drop 1) := by rw [← cut1]; exact SqL.of upd_same
      refine ⟨a, p, sV L, (sV L).drop 1, rfl, .inl ⟨s1.lst t ha, hb, fun D hD => ?_⟩⟩
      refine lc_it (walk_zip rfl) (fun i H2 => Sm P (upd H p (HO.lst (cutV (sV L) (some 1) none))) H2 ∧ H2 D = some (HO.lst ((List.replicate i true).map V.bl))) ⟨Sm.new (s1).2 hD, upd_same⟩ (fun i H2 _ p => ⟨p.1.lst (s1).2 (s1.lst t ha), p.1.lst (s1).2 (hb)⟩) (fun i x H2 H3 hi p y => ?_) (fun H2 p => ?_)
      · exact turn _ (s1) D hD i x H2 H3 hi p y
      · exact fin _ (s1) D _ H2 p
end
end K6

set_option Elab.async false
set_option linter.all false
set_option maxRecDepth 100000
set_option maxHeartbeats 4000000
namespace K6
open PySem PySem.Spec PyProof.Rows L2 So
theorem all_rep (n : Nat) : (List.replicate n true).all id = true := by
  rw [List.all_eq_true]
  intro x hx
  exact (List.mem_replicate.mp hx).2
theorem rep_snoc (n : Nat) : (List.replicate n true).map V.bl ++ [V.bl true] = (List.replicate (n + 1) true).map V.bl := by
  rw [List.replicate_succ', List.map_append]
  rfl
theorem rep_small {n : Nat} (h : n < 10000) : ((List.replicate n true).map V.bl).length < sizeLine := by
  rw [List.length_map, List.length_replicate]
  exact Nat.lt_of_lt_of_le h (by decide)
section
variable {Pg : Program} {w : World} {K : PySem.W.Frag} {mg : Str → Option Value} {base : Heap} {P : Addr}
abbrev sAlb : Stmt := top 23
theorem scAlb : FnScope ["value", "name"] ["value"] (defScope sAlb) := ⟨rfl, rfl, rfl, by decide +kernel, rfl, by decide +kernel, by decide +kernel⟩
def okLabs (L : List Str) : Bool := decide (L.length ≤ 6) && asc L && L.all fun z => isLab z && decide (z.length ≤ 12)
def spAlb (K : PySem.W.Frag) (P : Addr) : Sp := Pu P fun vs H R => ∃ (v : V) (L : List Str), vs = [v] ∧ ItS (Sq K) H v (sV L) ∧ okLabs L = true ∧ R = fun v _ => v = .bl true
theorem ok_alb {f fS fL fA c : Addr} {fd fdS fdL fdA : FuncData} (F : Fun K "are_labels" "are_labels" sAlb f fd) (T : Ty K mg) (TB : GxR.TabB base mg c P) (S : Df K mg "is_sequence" sSeq ["value"] fS fdS) (Lb : DfC K mg "is_label" sLab ["value"] fL fdL c)
    (A : Df K mg "_is_ascending" sAsc ["names"] fA fdA) : FnOk Pg w K mg base CX0 2 f fd ["value"] (spAlb K P) := by
  have GS : FnOk Pg w K mg base CX0 1 fS fdS ["value"] (spSeq2 K P) := ok_seq2 S.F T.T
  have GL : FnOk Pg w K mg base CX0 1 fL fdL ["value"] (spLab P) := ok_lab Lb T.T TB
  have GA : FnOk Pg w K mg base CX0 1 fA fdA ["names"] (spAsc K P) := ok_asc A.F T
  obtain ⟨_, tm⟩ := T.lsm
  refine F.ok scAlb (fun vs H Q E h => ?_) (fun cdv A' outer s H vs Q E hr h => ?_)
  · obtain ⟨_, _, ⟨_, _, rfl, _⟩, _⟩ := h
    rfl
  · obtain ⟨t, _, ⟨v, L, rfl, ⟨a, rfl, ha⟩, hok, rfl⟩, k⟩ := h
    unfold okLabs at hok
    rw [Bool.and_eq_true, Bool.and_eq_true] at hok
    obtain ⟨⟨h6, hasc⟩, hall⟩ := hok
    have h6' : L.length ≤ 6 := of_decide_eq_true h6
    refine ⟨_, pss_cons (ps_if (PW.pt (pw_or (pt_not (pt_val (pe_call GS hr (by rfl) S.g S.F.kp S.b .nil pass0 (pa_cons (pv 0) pa_nil))))
        (pw_or1 (pt_cmpR op_gt (pe_callB call_len_seq (by rfl) T.T.len (by decide +kernel) (pa_cons (pv 0) pa_nil)) (pe_glob (v := .int 6) (by rfl) tm ⟨_, rfl⟩) (nomark _))))) pss_never pss_nil)
      (pss_one (ps_ret (pe_and (pe_callB (cr_all rfl) (by rfl) T.T.all (by decide +kernel) (pa_cons (pe_lc (own := [("name", 1)]) (g := gName 1) (tt := tYes) rfl scAlb.nd (pi_sq (pv 0)) (blkOk_by (N := ["value", "name"]) (sc := defScope sAlb) (by decide +kernel)) (fun _ _ _ _ _ => pg_name (i := 1) scAlb.nd rfl (Or.inl rfl)) (fun _ _ _ _ _ => pts_nil)
          (fun _ _ _ _ _ => show PE _ _ (tCall (spLab P) [] E0 (tCons (tVar 1) tNil)) from pe_call GL hr (by rfl) Lb.g Lb.kp Lb.b .nil pass0 (pa_cons (pv 1) pa_nil))) pa_nil))
        (pe_one (pe_call GA hr (by rfl) A.g A.F.kp A.b .nil pass0 (pa_cons (pv 0) pa_nil)))))), ?_⟩
    have lL : (sV L).length = L.length := by unfold sV; rw [List.length_map]
    refine ⟨_, rfl, t, _, ⟨a, sV L, rfl, ha, rfl⟩, fun v H1 s1 e => ⟨true, e, iteF ?_⟩⟩
    refine ⟨_, rfl, a, _, rfl, len_sq (ha.mono t s1), _, _, rfl, rfl, false, congrArg V.bl (decide_eq_false (by rw [lL]; omega)), iteF ?_⟩
    refine next_of ?_
    dsimp only
    refine ret_of ?_
    refine cb1_of ?_
    refine lc_sq (xs := sV L) (ha.mono t s1) (fun Q q => ⟨_, rfl, q⟩) (fun D i H' => Sm P H1 H' ∧ H' D = some (.lst ((List.replicate i true).map V.bl))) (fun D hD => ⟨Sm.new s1.2 hD, upd_same⟩)
      (fun D hD i H' ⟨s, _⟩ => sq_keep s1.2 s) ?_ ?_
    · rintro D hD i x H' hx ⟨s2, q1⟩
      obtain ⟨z, hz, rfl⟩ := sV_at hx
      have hi : i < L.length := (List.getElem?_eq_some_iff.mp hz).1
      have hz2 := List.all_eq_true.mp hall z (List.mem_of_getElem? hz)
      rw [Bool.and_eq_true] at hz2
      refine ⟨rfl, _, rfl, s2.2, _, ⟨z, rfl, sz12 (of_decide_eq_true hz2.2), rfl⟩, fun v H3 s3 e => ?_⟩
      rw [hz2.1] at e
      subst e
      have q1' := s3.atL s2.2 q1
      refine ⟨_, q1', rep_small (by omega), (s2.trans s3).mut hD (nPt s1.2 hD), ?_⟩
      rw [upd_same, rep_snoc]
    · rintro D hD H' ⟨s2, q1⟩
      have s12 := s1.trans s2
      refine ⟨D, _, rfl, SqL.of q1, true, congrArg V.bl (all_rep _), iteT ?_⟩
      exact ⟨_, rfl, s12.2, _, ⟨_, L, rfl, ⟨a, rfl, ha.mono t s12⟩, by omega, hasc, rfl⟩, fun v H3 s3 e => k _ _ (s12.trans s3) e⟩
abbrev sAtx : Stmt := top 24
theorem scAtx : FnScope ["value", "name"] ["value"] (defScope sAtx) := ⟨rfl, rfl, rfl, by decide +kernel, rfl, by decide +kernel, by decide +kernel⟩
def okTxs (L : List Str) : Bool := decide (L.length ≤ 4) && asc L && L.all fun z => decide (z.length ≤ 65535)
def spAtx (K : PySem.W.Frag) (P : Addr) : Sp := Pu P fun vs H R => ∃ (v : V) (L : List Str), vs = [v] ∧ ItS (Sq K) H v (sV L) ∧ okTxs L = true ∧ R = fun v _ => v = .bl true
theorem ok_atx {f fS fL fA : Addr} {fd fdS fdL fdA : FuncData} (F : Fun K "are_texts" "are_texts" sAtx f fd) (T : Ty K mg) (S : Df K mg "is_sequence" sSeq ["value"] fS fdS) (Lb : Df K mg "is_text" sTxt ["value"] fL fdL)
    (A : Df K mg "_is_ascending" sAsc ["names"] fA fdA) : FnOk Pg w K mg base CX0 2 f fd ["value"] (spAtx K P) := by
  have GS : FnOk Pg w K mg base CX0 1 fS fdS ["value"] (spSeq2 K P) := ok_seq2 S.F T.T
  have GL : FnOk Pg w K mg base CX0 1 fL fdL ["value"] (spTxt P) := ok_txt Lb.F T.T
  have GA : FnOk Pg w K mg base CX0 1 fA fdA ["names"] (spAsc K P) := ok_asc A.F T
  obtain ⟨_, tm⟩ := T.tsm
  refine F.ok scAtx (fun vs H Q E h => ?_) (fun cdv A' outer s H vs Q E hr h => ?_)
  · obtain ⟨_, _, ⟨_, _, rfl, _⟩, _⟩ := h
    rfl
  · obtain ⟨t, _, ⟨v, L, rfl, ⟨a, rfl, ha⟩, hok, rfl⟩, k⟩ := h
    unfold okTxs at hok
    rw [Bool.and_eq_true, Bool.and_eq_true] at hok
    obtain ⟨⟨h6, hasc⟩, hall⟩ := hok
    have h6' : L.length ≤ 4 := of_decide_eq_true h6
    refine ⟨_, pss_cons (ps_if (PW.pt (pw_or (pt_not (pt_val (pe_call GS hr (by rfl) S.g S.F.kp S.b .nil pass0 (pa_cons (pv 0) pa_nil))))
        (pw_or1 (pt_cmpR op_gt (pe_callB call_len_seq (by rfl) T.T.len (by decide +kernel) (pa_cons (pv 0) pa_nil)) (pe_glob (v := .int 4) (by rfl) tm ⟨_, rfl⟩) (nomark _))))) pss_never pss_nil)
      (pss_one (ps_ret (pe_and (pe_callB (cr_all rfl) (by rfl) T.T.all (by decide +kernel) (pa_cons (pe_lc (own := [("name", 1)]) (g := gName 1) (tt := tYes) rfl scAtx.nd (pi_sq (pv 0)) (blkOk_by (N := ["value", "name"]) (sc := defScope sAtx) (by decide +kernel)) (fun _ _ _ _ _ => pg_name (i := 1) scAtx.nd rfl (Or.inl rfl)) (fun _ _ _ _ _ => pts_nil)
          (fun _ _ _ _ _ => show PE _ _ (tCall (spTxt P) [] E0 (tCons (tVar 1) tNil)) from pe_call GL hr (by rfl) Lb.g Lb.F.kp Lb.b .nil pass0 (pa_cons (pv 1) pa_nil))) pa_nil))
        (pe_one (pe_call GA hr (by rfl) A.g A.F.kp A.b .nil pass0 (pa_cons (pv 0) pa_nil)))))), ?_⟩
    have lL : (sV L).length = L.length := by unfold sV; rw [List.length_map]
    refine ⟨_, rfl, t, _, ⟨a, sV L, rfl, ha, rfl⟩, fun v H1 s1 e => ⟨true, e, iteF ?_⟩⟩
    refine ⟨_, rfl, a, _, rfl, len_sq (ha.mono t s1), _, _, rfl, rfl, false, congrArg V.bl (decide_eq_false (by rw [lL]; omega)), iteF ?_⟩
    refine next_of ?_
    dsimp only
    refine ret_of ?_
    refine cb1_of ?_
    refine lc_sq (xs := sV L) (ha.mono t s1) (fun Q q => ⟨_, rfl, q⟩) (fun D i H' => Sm P H1 H' ∧ H' D = some (.lst ((List.replicate i true).map V.bl))) (fun D hD => ⟨Sm.new s1.2 hD, upd_same⟩)
      (fun D hD i H' ⟨s, _⟩ => sq_keep s1.2 s) ?_ ?_
    · rintro D hD i x H' hx ⟨s2, q1⟩
      obtain ⟨z, hz, rfl⟩ := sV_at hx
      have hi : i < L.length := (List.getElem?_eq_some_iff.mp hz).1
      have hz2 : z.length ≤ 65535 := of_decide_eq_true (List.all_eq_true.mp hall z (List.mem_of_getElem? hz))
      refine ⟨rfl, _, rfl, s2.2, _, ⟨z, rfl, sz65 hz2, rfl⟩, fun v H3 s3 e => ?_⟩
      rw [decide_eq_true (show ((z.length : Nat) : Int) ≤ 65535 by omega)] at e
      subst e
      have q1' := s3.atL s2.2 q1
      refine ⟨_, q1', rep_small (by omega), (s2.trans s3).mut hD (nPt s1.2 hD), ?_⟩
      rw [upd_same, rep_snoc]
    · rintro D hD H' ⟨s2, q1⟩
      have s12 := s1.trans s2
      refine ⟨D, _, rfl, SqL.of q1, true, congrArg V.bl (all_rep _), iteT ?_⟩
      exact ⟨_, rfl, s12.2, _, ⟨_, L, rfl, ⟨a, rfl, ha.mono t s12⟩, by omega, hasc, rfl⟩, fun v H3 s3 e => k _ _ (s12.trans s3) e⟩
end
end K6

set_option Elab.async false
set_option linter.all false
set_option maxRecDepth 100000
set_option maxHeartbeats 4000000
namespace K6
open PySem PySem.Spec PyProof.Rows L2 So
structure Mc where
  L : List Str
  X : List Str
  tp : Tps
  inn : Inn
def Mc.ok (M : Mc) : Prop := okLabs M.L = true ∧ okTxs M.X = true ∧ M.inn.ok M.L.length M.X.length ∧ M.tp.ok M.X.length M.inn.m
def McS (S : Hp → Addr → List V → Prop) (H : Hp) (v : V) (M : Mc) : Prop := ∃ (a : Addr) (vL vX vT vI : V), v = .ref a ∧ S H a [vL, vX, vT, vI] ∧ ItS S H vL (sV M.L) ∧ ItS S H vX (sV M.X) ∧ TpsS S H vT M.tp ∧ InnS S H vI M.inn
section
variable {S : Hp → Addr → List V → Prop} {P : Addr} {H H' : Hp} {v : V}
theorem TpsS.mono {I : Tps} (m : Mo S P) (t : GxR.TabG H P) (s : Sm P H H') (h : TpsS S H v I) : TpsS S H' v I := by
  obtain ⟨a, v1, v2, v3, e, h, h1, h2, h3⟩ := h
  exact ⟨a, v1, v2, v3, e, m _ _ _ _ t s h, h1.mono m t s, h2.mono m t s, h3.mono m t s⟩
theorem InnS.mono {I : Inn} (m : Mo S P) (t : GxR.TabG H P) (s : Sm P H H') (h : InnS S H v I) : InnS S H' v I := by
  obtain ⟨a, v1, v2, v3, e, h, h1, h2, h3⟩ := h
  exact ⟨a, v1, v2, v3, e, m _ _ _ _ t s h, h1.mono m t s, h2.mono m t s, h3.mono m t s⟩
theorem McS.mono {M : Mc} (m : Mo S P) (t : GxR.TabG H P) (s : Sm P H H') (h : McS S H v M) : McS S H' v M := by
  obtain ⟨a, v1, v2, v3, v4, e, h, h1, h2, h3, h4⟩ := h
  exact ⟨a, v1, v2, v3, v4, e, m _ _ _ _ t s h, h1.mono m t s, h2.mono m t s, h3.mono m t s, h4.mono m t s⟩
end
section
variable {Pg : Program} {w : World} {K : PySem.W.Frag} {mg : Str → Option Value} {base : Heap} {P : Addr}
theorem tup_sq {H : Hp} {a : Addr} {xs : List V} {Q : VK} (t : GxR.TabG H P) (h : Sq K H a xs) (k : ∀ z H2, Sm P H H2 → SqT K H2 z xs → Q (.ref z) H2) : kTup K (.ref a) H Q :=
  h.elim (fun h => .inr ⟨a, xs, rfl, h, k a H (Sm.refl t) h⟩) (fun h => .inl ⟨a, xs, rfl, h, fun q hq => k q _ (Sm.new t hq) (.inl (.inl upd_same))⟩)
theorem rows_few {rs : List (List Nat)} {n : Nat} (h : rs.length ≤ n) : (mV rs).length ≤ n := by
  unfold mV
  rw [List.length_map]
  exact h
abbrev sChk : Stmt := top 35
abbrev nChk : List Str := ["value", "labels", "texts", "tops", "inners", "top", "inner"]
theorem scChk : FnScope nChk ["value"] (defScope sChk) := ⟨rfl, rfl, rfl, by decide +kernel, rfl, by decide +kernel, by decide +kernel⟩
def spChk (K : PySem.W.Frag) (P : Addr) : Sp := Pu P fun vs H R => ∃ (v : V) (M : Mc), vs = [v] ∧ McS (Sq K) H v M ∧ M.ok ∧ R = fun v H' => McS (SqT K) H' v M
theorem ok_chk {f fR fS fL fX fI fT fA c : Addr} {fd fdR fdS fdL fdX fdI fdT fdA : FuncData} (F : Fun K "check_machine" "check_machine" sChk f fd) (T : Ty K mg) (R : Df K mg "is_row_of" sRow ["value", "many"] fR fdR) (S : Df K mg "is_sequence" sSeq ["value"] fS fdS)
    (L : Df K mg "are_labels" sAlb ["value"] fL fdL) (GL : FnOk Pg w K mg base CX0 2 fL fdL ["value"] (spAlb K P))
    (X : Df K mg "are_texts" sAtx ["value"] fX fdX) (GX : FnOk Pg w K mg base CX0 2 fX fdX ["value"] (spAtx K P))
    (I : Df K mg "are_inners" sInn ["value", "labels", "texts"] fI fdI) (GI : FnOk Pg w K mg base CX0 5 fI fdI ["value", "labels", "texts"] (spInn K P))
    (Tp : Df K mg "are_tops" sTop ["value", "texts", "inner_many"] fT fdT) (GT : FnOk Pg w K mg base CX0 5 fT fdT ["value", "texts", "inner_many"] (spTop K P))
    (A : Df K mg "as_tuples" sAst ["rows"] fA fdA) : FnOk Pg w K mg base CX0 6 f fd ["value"] (spChk K P) := by
  have GR : FnOk Pg w K mg base CX0 2 fR fdR ["value", "many"] (spRow2 K P) := ok_row2 R.F T.T S
  have GA : FnOk Pg w K mg base CX0 1 fA fdA ["rows"] (spAst K P) := ok_ast A.F T
  refine F.ok scChk (fun vs H Q E h => ?_) (fun cdv A' outer s H vs Q E hr h => ?_)
  · obtain ⟨_, _, ⟨_, _, rfl, _⟩, _⟩ := h
    rfl
  · obtain ⟨t, _, ⟨v, M, rfl, ⟨a, vL, vX, vT, vI, rfl, ha, hL, hX, hT, hI⟩, ⟨o1, o2, o3, o4⟩, rfl⟩, k⟩ := h
    have r1 : Room 1 _ := hr.mono (by decide)
    have r2 : Room 2 _ := hr.mono (by decide)
    refine ⟨_, pss_cons (ps_if (pt_not (pt_val (pe_call GR r2 (by rfl) R.g R.F.kp R.b .nil pass0 (pa_cons (pv 0) (pa_cons pe_int pa_nil))))) pss_never pss_nil)
      (pss_cons (ps_asg (pv 0) (pg_sq rfl (pgs_cons (pg_name (i := 1) scChk.nd rfl (.inl rfl)) (pgs_cons (pg_name (i := 2) scChk.nd rfl (.inl rfl)) (pgs_cons (pg_name (i := 3) scChk.nd rfl (.inl rfl)) (pgs_cons (pg_name (i := 4) scChk.nd rfl (.inl rfl)) pgs_nil))))))
      (pss_cons (ps_if (pt_not (pt_val (pe_call GL r2 (by rfl) L.g L.F.kp L.b .nil pass0 (pa_cons (pv 1) pa_nil)))) pss_never pss_nil)
      (pss_cons (ps_if (pt_not (pt_val (pe_call GX r2 (by rfl) X.g X.F.kp X.b .nil pass0 (pa_cons (pv 2) pa_nil)))) pss_never pss_nil)
      (pss_cons (ps_if (pt_not (pt_val (pe_call GI hr (by rfl) I.g I.F.kp I.b .nil pass0 (pa_cons (pv 4) (pa_cons (pv 1) (pa_cons (pv 2) pa_nil)))))) pss_never pss_nil)
      (pss_cons (ps_if (pt_not (pt_val (pe_call GT hr (by rfl) Tp.g Tp.F.kp Tp.b .nil pass0 (pa_cons (pv 3) (pa_cons (pv 2) (pa_cons (pe_ix ix_sq (pv 4) pe_int (fun _ _ => rfl)) pa_nil)))))) pss_never pss_nil)
      (pss_cons (ps_set (i := 5) scChk.nd rfl (Or.inl rfl) (pe_tup (pa_cons (pe_ix ix_sq (pv 3) pe_int (fun _ _ => rfl)) (pa_cons (pe_ix ix_sq (pv 3) pe_int (fun _ _ => rfl))
          (pa_cons (pe_call GA r1 (by rfl) A.g A.F.kp A.b .nil pass0 (pa_cons (pe_ix ix_sq (pv 3) pe_int (fun _ _ => rfl)) pa_nil)) (pa_cons (pe_call GA r1 (by rfl) A.g A.F.kp A.b .nil pass0 (pa_cons (pe_ix ix_sq (pv 3) pe_int (fun _ _ => rfl)) pa_nil))
          (pa_cons (pe_call GA r1 (by rfl) A.g A.F.kp A.b .nil pass0 (pa_cons (pe_ix ix_sq (pv 3) pe_int (fun _ _ => rfl)) pa_nil)) pa_nil)))))))
      (pss_cons (ps_set (i := 6) scChk.nd rfl (Or.inl rfl) (pe_tup (pa_cons (pe_ix ix_sq (pv 4) pe_int (fun _ _ => rfl)) (pa_cons (pe_tupleOf (by rfl) T.T.tuple (pe_ix ix_sq (pv 4) pe_int (fun _ _ => rfl)))
          (pa_cons (pe_call GA r1 (by rfl) A.g A.F.kp A.b .nil pass0 (pa_cons (pe_ix ix_sq (pv 4) pe_int (fun _ _ => rfl)) pa_nil)) (pa_cons (pe_call GA r1 (by rfl) A.g A.F.kp A.b .nil pass0 (pa_cons (pe_ix ix_sq (pv 4) pe_int (fun _ _ => rfl)) pa_nil)) pa_nil))))))
      (pss_one (ps_ret (pe_tup (pa_cons (pe_tupleOf (by rfl) T.T.tuple (pv 1)) (pa_cons (pe_tupleOf (by rfl) T.T.tuple (pv 2)) (pa_cons (pv 5) (pa_cons (pv 6) pa_nil)))))))))))))), ?_⟩
    obtain ⟨bL, rfl, hbL⟩ := _root_.id hL
    obtain ⟨bX, rfl, hbX⟩ := _root_.id hX
    obtain ⟨bT, t1, t2, t3, rfl, hbT, ht1, ht2, ht3⟩ := _root_.id hT
    obtain ⟨bI, i1, i2, i3, rfl, hbI, hi1, hi2, hi3⟩ := _root_.id hI
    have lL : (sV M.L).length = M.L.length := by unfold sV; rw [List.length_map]
    have lX : (sV M.X).length = M.X.length := by unfold sV; rw [List.length_map]
    have fewX : M.X.length ≤ 4 := by
      unfold okTxs at o2
      rw [Bool.and_eq_true, Bool.and_eq_true] at o2
      exact of_decide_eq_true o2.1.1
    obtain ⟨p1, p2, p3, p4, p5, p6, p7, p8⟩ := _root_.id o3
    obtain ⟨q1, q2, q3, q4, q5, q6, q7, q8, q9⟩ := _root_.id o4
    refine ⟨_, rfl, t, _, ⟨a, _, 4, rfl, ha, rfl⟩, fun v H1 s1 e => ⟨true, e, iteF ?_⟩⟩
    refine ⟨_, rfl, a, _, rfl, ha.mono t s1, rfl, _, _, rfl, _, _, rfl, _, _, rfl, _, _, rfl, rfl, ?_⟩
    refine ⟨_, rfl, s1.2, _, ⟨_, M.L, rfl, hL.mono mo_sq t s1, o1, rfl⟩, fun v H2 s2 e => ⟨true, e, iteF ?_⟩⟩
    have s12 := s1.trans s2
    refine ⟨_, rfl, s12.2, _, ⟨_, M.X, rfl, hX.mono mo_sq t s12, o2, rfl⟩, fun v H3 s3 e => ⟨true, e, iteF ?_⟩⟩
    have s13 := s12.trans s3
    refine ⟨_, rfl, _, rfl, _, rfl, s13.2, _, ⟨_, bL, bX, _, _, M.inn, rfl, hI.mono mo_sq t s13, hbL.mono t s13, hbX.mono t s13, by rw [lL, lX]; exact o3, rfl⟩, fun v H4 s4 e => ⟨true, e, iteF ?_⟩⟩
    have s14 := s13.trans s4
    refine ⟨_, rfl, _, rfl, _, rfl, at_sq (hbI.mono t s14) (atI_nat (j := 0) rfl) ⟨s14.2, _, ⟨_, bX, _, M.tp, M.inn.m, rfl, hT.mono mo_sq t s14, hbX.mono t s14, by rw [lX]; exact o4, rfl⟩, fun v H5 s5 e => ⟨true, e, iteF ?_⟩⟩⟩
    have s15 := s14.trans s5
    -- top = ..
    refine ⟨_, rfl, at_sq (hbT.mono t s15) (atI_nat (j := 0) rfl) ⟨_, rfl, at_sq (hbT.mono t s15) (atI_nat (j := 1) rfl) ⟨_, rfl, at_sq (hbT.mono t s15) (atI_nat (j := 2) rfl)
      ⟨s15.2, _, ⟨_, _, rfl, ht1.mono mo_sq t s15, rows_few (by omega), rfl⟩, fun v1 H6 s6 e1 => ?_⟩⟩⟩⟩
    have s16 := s15.trans s6
    refine ⟨_, rfl, at_sq (hbT.mono t s16) (atI_nat (j := 3) rfl) ⟨s16.2, _, ⟨_, _, rfl, ht2.mono mo_sq t s16, rows_few (by omega), rfl⟩, fun v2 H7 s7 e2 => ?_⟩⟩
    have s17 := s16.trans s7
    refine ⟨_, rfl, at_sq (hbT.mono t s17) (atI_nat (j := 4) rfl) ⟨s17.2, _, ⟨_, _, rfl, ht3.mono mo_sq t s17, ?_, rfl⟩, fun v3 H8 s8 e3 => ?_⟩⟩
    · unfold aV
      rw [List.length_map]
      omega
    have s18 := s17.trans s8
    refine ⟨(by show 5 ≤ sizeLine; decide), fun zT hzT => ?_⟩
    have s9 := Sm.new (o := .tup [.int (M.tp.n : Nat), .int (M.tp.s : Nat), v1, v2, v3]) s18.2 hzT
    have s19 := s18.trans s9
    have hzT9 : SqT K (upd H8 zT (.tup [.int (M.tp.n : Nat), .int (M.tp.s : Nat), v1, v2, v3])) zT [.int (M.tp.n : Nat), .int (M.tp.s : Nat), v1, v2, v3] := .inl (.inl upd_same)
    -- inner = ..
    refine ⟨_, rfl, at_sq (hbI.mono t s19) (atI_nat (j := 0) rfl) ⟨_, rfl, at_sq (hbI.mono t s19) (atI_nat (j := 1) rfl) ?_⟩⟩
    obtain ⟨bs, rfl, hbs⟩ := hi1
    refine tup_sq s19.2 (hbs.mono t s19) fun zs H10 s10 hzs => ?_
    have s110 := s19.trans s10
    refine ⟨_, rfl, at_sq (hbI.mono t s110) (atI_nat (j := 2) rfl) ⟨s110.2, _, ⟨_, _, rfl, hi2.mono mo_sq t s110, rows_few (by omega), rfl⟩, fun u1 H11 s11 f1 => ?_⟩⟩
    have s111 := s110.trans s11
    refine ⟨_, rfl, at_sq (hbI.mono t s111) (atI_nat (j := 3) rfl) ⟨s111.2, _, ⟨_, _, rfl, hi3.mono mo_sq t s111, rows_few (by omega), rfl⟩, fun u2 H12 s12' f2 => ?_⟩⟩
    have s112 := s111.trans s12'
    refine ⟨(by show 4 ≤ sizeLine; decide), fun zI hzI => ?_⟩
    have s13' := Sm.new (o := .tup [.int (M.inn.m : Nat), .ref zs, u1, u2]) s112.2 hzI
    have s113 := s112.trans s13'
    have hzI13 : SqT K (upd H12 zI (.tup [.int (M.inn.m : Nat), .ref zs, u1, u2])) zI [.int (M.inn.m : Nat), .ref zs, u1, u2] := .inl (.inl upd_same)
    -- the whole
    refine ⟨_, rfl, tup_sq s113.2 (hbL.mono t s113) fun zL H14 s14' hzL => ?_⟩
    have s114 := s113.trans s14'
    refine ⟨_, rfl, tup_sq s114.2 (hbX.mono t s114) fun zX H15 s15' hzX => ?_⟩
    have s115 := s114.trans s15'
    refine ⟨_, rfl, _, rfl, (by show 4 ≤ sizeLine; decide), fun z hz => ?_⟩
    have s16' := Sm.new (o := .tup [.ref zL, .ref zX, .ref zT, .ref zI]) s115.2 hz
    have s116 := s115.trans s16'
    have a13 := s14'.trans (s15'.trans s16')
    have a12 := s13'.trans a13
    have a11 := s12'.trans a12
    have a10 := s11.trans a11
    have a9 := s10.trans a10
    have a8 := s9.trans a9
    have a7 := s8.trans a8
    have a6 := s7.trans a7
    refine k _ _ s116 ⟨z, .ref zL, .ref zX, .ref zT, .ref zI, rfl, .inl (.inl upd_same), ⟨zL, rfl, (s15'.trans s16').tup s114.2 hzL⟩, ⟨zX, rfl, s16'.tup s115.2 hzX⟩,
      ⟨zT, v1, v2, v3, rfl, a9.tup s19.2 hzT9, RowsS.mono mo_tup s16.2 a6 e1, RowsS.mono mo_tup s17.2 a7 e2, RowsS.mono mo_tup s18.2 a8 e3⟩,
      ⟨zI, .ref zs, u1, u2, rfl, a13.tup s113.2 hzI13, ⟨zs, rfl, a10.tup s110.2 hzs⟩, RowsS.mono mo_tup s111.2 a11 f1, RowsS.mono mo_tup s112.2 a12 f2⟩⟩
end
end K6

set_option Elab.async false
set_option linter.all false
set_option maxRecDepth 100000
set_option maxHeartbeats 4000000
namespace K6
open PySem PySem.Spec PyProof.Rows L2 So
/-! ### the place of a name, the run of a machine, without the program -/
def kd : List Str → Str → Nat
  | [], _ => 0
  | a :: r, z => if a = z then 0 else kd r z + 1
theorem kd_le : ∀ (L : List Str) (z : Str), kd L z ≤ L.length
  | [], _ => Nat.le_refl _
  | a :: r, z => by
    have := kd_le r z
    unfold kd
    split
    · exact Nat.zero_le _
    · simp
      exact this
theorem kd_at : ∀ {L : List Str} {z : Str} {i : Nat}, (∀ j, j < i → L[j]? ≠ some z) → L[i]? = some z → kd L z = i
  | a :: r, z, 0, _, h => by
    cases h
    simp [kd]
  | a :: r, z, i + 1, h, h1 => by
    have ne : ¬ a = z := fun e => h 0 (by omega) (by rw [e]; rfl)
    unfold kd
    rw [if_neg ne, kd_at (L := r) (z := z) (i := i) (fun j hj => h (j + 1) (by omega)) h1]
  | [], z, i, _, h => by simp at h
theorem kd_none : ∀ {L : List Str} {z : Str}, (∀ j, j < L.length → L[j]? ≠ some z) → kd L z = L.length
  | [], _, _ => rfl
  | a :: r, z, h => by
    have ne : ¬ a = z := fun e => h 0 (by simp) (by rw [e]; rfl)
    unfold kd
    rw [if_neg ne, kd_none (L := r) (fun j hj => h (j + 1) (by simpa using hj))]
    rfl
def cell (rs : List (List Nat)) (k s : Nat) : Nat := (rs.getD k []).getD s 0
def Mc.txt (M : Mc) (top : Bool) (z : Str) (s : Nat) : Nat := cell (if top then M.tp.tt else M.inn.it) (kd M.X z) s
def Mc.chi (M : Mc) (top : Bool) (c s : Nat) : Nat := cell (if top then M.tp.tc else M.inn.ic) c s
def Mc.start (M : Mc) (l : Str) : Nat := M.inn.st.getD (kd M.L l) 0
/-- a pile of states, the innermost first -/
def Mc.step (M : Mc) : List Nat → Sg → List Nat
  | s :: r, .tx z => M.txt r.isEmpty z s :: r
  | st, .op l => M.start l :: st
  | c :: s :: r, .cl => M.chi r.isEmpty c s :: r
  | st, .cl => st
  | [], .tx _ => []
def Mc.run (M : Mc) (st : List Nat) (gs : List Sg) : List Nat := gs.foldl M.step st
mutual
def Mc.node (M : Mc) (top : Bool) (s : Nat) : Nd → Nat
  | .tx z => M.txt top z s
  | .el l ds => M.chi top (M.row false (M.start l) ds) s
def Mc.row (M : Mc) (top : Bool) (s : Nat) : List Nd → Nat
  | [] => s
  | d :: r => M.row top (M.node top s d) r
end
theorem run_app (M : Mc) (st : List Nat) (a b : List Sg) : M.run st (a ++ b) = M.run (M.run st a) b := by
  unfold Mc.run
  rw [List.foldl_append]
mutual
theorem run_node (M : Mc) : ∀ (d : Nd) (s : Nat) (r : List Nat), M.run (s :: r) (sgN d) = M.node r.isEmpty s d :: r
  | .tx z, s, r => by
    simp only [sgN, Mc.node]
    rfl
  | .el l ds, s, r => by
    have h := run_row M ds (M.start l) (s :: r)
    simp only [sgN, Mc.node]
    show M.run (M.step (s :: r) (.op l)) (sgs ds ++ [.cl]) = _
    rw [run_app]
    have e : M.step (s :: r) (.op l) = M.start l :: s :: r := rfl
    rw [e, h]
    rfl
theorem run_row (M : Mc) : ∀ (ds : List Nd) (s : Nat) (r : List Nat), M.run (s :: r) (sgs ds) = M.row r.isEmpty s ds :: r
  | [], s, r => by simp only [sgs, Mc.row]; rfl
  | d :: ds, s, r => by
    simp only [sgs, Mc.row]
    rw [run_app, run_node M d s r, run_row M ds _ r]
end
/-- a pile of right states -/
def okPile (M : Mc) : List Nat → Prop
  | [] => False
  | [s] => s < M.tp.n
  | s :: r => s < M.inn.m ∧ okPile M r
theorem cell_lt {rs : List (List Nat)} {n k s : Nat} (h : okMaps rs n) (hk : k < rs.length) (hs : s < n) : cell rs k s < n := by
  unfold cell
  have e : rs.getD k [] = rs[k] := by simp [hk]
  have m := h _ (List.getElem_mem hk)
  rw [e]
  have e2 : rs[k].getD s 0 = rs[k][s]'(by rw [m.1]; exact hs) := by
    have : s < rs[k].length := by rw [m.1]; exact hs
    simp [this]
  rw [e2]
  exact m.2 _ (List.getElem_mem _)
section
variable {Pg : Program} {w : World} {K : PySem.W.Frag} {mg : Str → Option Value} {base : Heap} {P : Addr}
/-! ### kind_of -/
abbrev sKnd : Stmt := top 36
theorem scKnd : FnScope ["names", "value", "place", "name"] ["names", "value"] (defScope sKnd) := ⟨rfl, rfl, rfl, by decide +kernel, rfl, by decide +kernel, by decide +kernel⟩
def spKnd (K : PySem.W.Frag) (P : Addr) : Sp := Pu P fun vs H R => ∃ (a : Addr) (L : List Str) (z : Str), vs = [.ref a, .str z] ∧ SqT K H a (sV L) ∧ L.length ≤ 100 ∧ R = fun v _ => v = .int (kd L z : Nat)
theorem ok_knd {f : Addr} {fd : FuncData} (F : Fun K "kind_of" "kind_of" sKnd f fd) (T : Ty K mg) : FnOk Pg w K mg base CX0 1 f fd ["names", "value"] (spKnd K P) := by
  refine F.ok scKnd (fun vs H Q E h => ?_) (fun cdv A' outer s H vs Q E hr h => ?_)
  · obtain ⟨_, _, ⟨_, _, _, rfl, _⟩, _⟩ := h
    rfl
  · obtain ⟨t, _, ⟨a, L, z, rfl, ha, hl, rfl⟩, k⟩ := h
    refine ⟨_, pss_cons (ps_for PassesOwn.never rfl (SoE.pi_enumT (by rfl) T.T.enumerate (pa_cons (pv 0) pa_nil)) (pg_tup rfl (pgs_cons (pg_name (i := 2) scKnd.nd rfl (.inl rfl)) (pgs_cons (pg_name (i := 3) scKnd.nd rfl (.inl rfl)) pgs_nil)))
        (pss_one (ps_if (pt_cmpR op_eq (pv 3) (pv 1) (nomark _)) (pss_one (ps_ret (pv 2))) pss_nil)))
      (pss_one (ps_ret (pe_callB call_len_seq (by rfl) T.T.len (by decide +kernel) (pa_cons (pv 0) pa_nil)))), ?_⟩
    have lL : (sV L).length = L.length := by unfold sV; rw [List.length_map]
    refine ⟨_, rfl, a, sV L, rfl, ha, for_it SoE.walk_enumT (fun i σ H' => ∃ (v2 v3 : Option V), σ = [some (.ref a), some (.str z), v2, v3] ∧ Sm P H H' ∧ ∀ j, j < i → L[j]? ≠ some z) ⟨none, none, rfl, Sm.refl t, fun j hj => absurd hj (Nat.not_lt_zero _)⟩ (fun i σ H' _ ⟨_, _, _, s3, _⟩ => s3.tup t ha) ?_ ?_⟩
    · rintro i y σ Ha Hb hi ⟨v2, v3, rfl, s3, no⟩ ⟨T1, x1, x, rfl, hT, rfl, e1, hxi⟩
      cases e1
      obtain ⟨u, hu, rfl⟩ := sV_at hxi
      have s4 : Sm P H (upd Ha T1 (.tup [.int (i : Nat), .str u])) := s3.trans (Sm.new s3.2 hT)
      refine ⟨T1, _, rfl, .inl (.inl upd_same), rfl, _, _, rfl, _, _, rfl, rfl, ?_⟩
      refine ⟨_, rfl, _, rfl, rfl, _, rfl, ite2 (fun q => ?_) (fun q => ?_)⟩
      · have e : u = z := V.str.inj (of_decide_eq_true q)
        subst e
        exact ⟨_, rfl, k _ _ s4 (by rw [kd_at no hu])⟩
      · refine ⟨_, _, rfl, s4, fun j hj e => ?_⟩
        by_cases ej : j = i
        · subst ej
          rw [hu] at e
          cases e
          exact q (decide_eq_true rfl)
        · exact no j (by omega) e
    · rintro σ H' ⟨v2, v3, rfl, s3, no⟩
      refine ⟨_, rfl, a, sV L, rfl, .inr (s3.tup t ha), k _ _ s3 ?_⟩
      rw [lL] at no ⊢
      rw [kd_none no]
end
end K6

set_option Elab.async false
set_option linter.all false
set_option maxRecDepth 100000
set_option maxHeartbeats 4000000
namespace K6
open PySem PySem.Spec PyProof.Rows L2 So
theorem pe_weak {X : Cx} {e : Expr} {t t' : TE} (h : PE X e t) (i : ∀ σ H Q, t' σ H Q → t σ H Q) : PE X e t' := ⟨fun pins s σ H Q I q => h.run pins s σ H Q I (i σ H Q q)⟩
/-- the depth behind signs, none where a closing has nothing to close -/
def dep : List Sg → Nat → Option Nat
  | [], n => some n
  | .op _ :: r, n => dep r (n + 1)
  | .tx _ :: r, n => dep r n
  | .cl :: _, 0 => none
  | .cl :: r, n + 1 => dep r n
mutual
theorem dep_node : ∀ (d : Nd) (r : List Sg) (n : Nat), dep (sgN d ++ r) n = dep r n
  | .tx z, r, n => by simp only [sgN]; rfl
  | .el l ds, r, n => by
    simp only [sgN]
    show dep (sgs ds ++ [.cl] ++ r) (n + 1) = _
    rw [List.append_assoc, dep_row ds]
    rfl
theorem dep_row : ∀ (ds : List Nd) (r : List Sg) (n : Nat), dep (sgs ds ++ r) n = dep r n
  | [], r, n => by simp only [sgs]; rfl
  | d :: ds, r, n => by
    simp only [sgs]
    rw [List.append_assoc, dep_node d, dep_row ds]
end
theorem dep_doc (ds : List Nd) : dep (sgs ds) 0 = some 0 := by
  have := dep_row ds [] 0
  rw [List.append_nil] at this
  exact this
theorem iV_get {r : List Nat} {s : Nat} (h : s < r.length) : (iV r)[s]? = some (.int (r.getD s 0 : Nat)) := by
  unfold iV
  rw [List.getElem?_map]
  simp [h]
theorem iV_rev (s : Nat) (r : List Nat) : iV (s :: r).reverse = iV r.reverse ++ [V.int (s : Nat)] := by
  unfold iV
  rw [List.reverse_cons, List.map_append]
  rfl
theorem iV_len (r : List Nat) : (iV r).length = r.length := by unfold iV; rw [List.length_map]
theorem getD_at {α : Type} {rs : List α} {d : α} {k : Nat} (h : k < rs.length) : rs.getD k d = rs[k] := by simp [h]
theorem ixN_last (n : Nat) : ixN (n + 1) (-1) = some n := by
  unfold ixN
  simp
  try omega
theorem set_last (ys : List V) (x y : V) : (ys ++ [x]).set ys.length y = ys ++ [y] := by simp
section
variable {K : PySem.W.Frag} {P : Addr} {H H' : Hp}
theorem rows_at {v : V} {rs : List (List Nat)} {k : Nat} (h : RowsS (SqT K) H v (mV rs)) (hk : k < rs.length) : ∃ a xs b, v = .ref a ∧ SqT K H a xs ∧ xs[k]? = some (V.ref b) ∧ SqT K H b (iV (rs.getD k [])) := by
  obtain ⟨a, xs, rfl, ha, hp⟩ := h
  have lx : xs.length = rs.length := by
    have := Paired.length hp
    unfold mV at this
    rw [List.length_map] at this
    exact this
  have hx : xs[k]? = some xs[k] := List.getElem?_eq_getElem (by omega)
  obtain ⟨r, hr, b, e, hb⟩ := paired_map hp hx
  rw [e] at hx
  refine ⟨a, xs, b, rfl, ha, hx, ?_⟩
  have e2 : rs.getD k [] = r := by simp [List.getD, hr]
  rw [e2]
  exact hb
theorem arows_at {v : V} {rs : List (List Bool)} {k : Nat} (h : RowsS (SqT K) H v (aV rs)) (hk : k < rs.length) : ∃ a xs b, v = .ref a ∧ SqT K H a xs ∧ xs[k]? = some (V.ref b) ∧ SqT K H b (bV (rs.getD k [])) := by
  obtain ⟨a, xs, rfl, ha, hp⟩ := h
  have lx : xs.length = rs.length := by
    have := Paired.length hp
    unfold aV at this
    rw [List.length_map] at this
    exact this
  have hx : xs[k]? = some xs[k] := List.getElem?_eq_getElem (by omega)
  obtain ⟨r, hr, b, e, hb⟩ := paired_map hp hx
  rw [e] at hx
  refine ⟨a, xs, b, rfl, ha, hx, ?_⟩
  have e2 : rs.getD k [] = r := by simp [List.getD, hr]
  rw [e2]
  exact hb
def PartS (K : PySem.W.Frag) (H : Hp) (a : Addr) (M : Mc) (top : Bool) : Prop := ∃ xs c2 c3, SqT K H a xs ∧ xs[2]? = some c2 ∧ xs[3]? = some c3 ∧ RowsS (SqT K) H c2 (mV (if top then M.tp.tt else M.inn.it)) ∧ RowsS (SqT K) H c3 (mV (if top then M.tp.tc else M.inn.ic))
theorem PartS.mono {a : Addr} {M : Mc} {top : Bool} (t : GxR.TabG H P) (s : Sm P H H') (h : PartS K H a M top) : PartS K H' a M top := by
  obtain ⟨xs, c2, c3, h1, e2, e3, h2, h3⟩ := h
  exact ⟨xs, c2, c3, s.tup t h1, e2, e3, h2.mono mo_tup t s, h3.mono mo_tup t s⟩
end
/-- part = tops if one state is open, else inners -/
def tPartI (K : PySem.W.Frag) : TE := fun σ H Q => ∃ (B zT zI : Addr) (pile : List Nat), σ[6]? = some (some (.ref B)) ∧ σ[4]? = some (some (.ref zT)) ∧ σ[5]? = some (some (.ref zI)) ∧ SqL K H B (iV pile) ∧ Q (.ref (if pile.length = 1 then zT else zI)) H
theorem okPile_tl {M : Mc} {c s : Nat} {r : List Nat} (h : okPile M (c :: s :: r)) : c < M.inn.m ∧ okPile M (s :: r) := h
theorem okPile_hd {M : Mc} {s : Nat} {r : List Nat} (h : okPile M (s :: r)) : s < (if r.isEmpty then M.tp.n else M.inn.m) := by
  cases r with
  | nil => exact h
  | cons a r => exact h.1
theorem okPile_set {M : Mc} {s s' : Nat} {r : List Nat} (h : okPile M (s :: r)) (h' : s' < (if r.isEmpty then M.tp.n else M.inn.m)) : okPile M (s' :: r) := by
  cases r with
  | nil => exact h'
  | cons a r => exact ⟨h', h.2⟩
theorem okPile_push {M : Mc} {s c : Nat} {r : List Nat} (h : okPile M (s :: r)) (hc : c < M.inn.m) : okPile M (c :: s :: r) := ⟨hc, h⟩
theorem txt_lt {M : Mc} (o : M.ok) {top : Bool} {z : Str} {s : Nat} (h : s < (if top then M.tp.n else M.inn.m)) : M.txt top z s < (if top then M.tp.n else M.inn.m) := by
  obtain ⟨_, _, ⟨_, _, _, _, o5, o6, _, _⟩, ⟨_, _, _, p4, p5, _, _, _, _⟩⟩ := o
  have := kd_le M.X z
  cases top with
  | true =>
    show cell M.tp.tt (kd M.X z) s < M.tp.n
    exact cell_lt p5 (by omega) h
  | false =>
    show cell M.inn.it (kd M.X z) s < M.inn.m
    exact cell_lt o6 (by omega) h
theorem chi_lt {M : Mc} (o : M.ok) {top : Bool} {c s : Nat} (hc : c < M.inn.m) (h : s < (if top then M.tp.n else M.inn.m)) : M.chi top c s < (if top then M.tp.n else M.inn.m) := by
  obtain ⟨_, _, ⟨_, _, _, _, _, _, o7, o8⟩, ⟨_, _, _, _, _, p6, p7, _, _⟩⟩ := o
  cases top with
  | true =>
    show cell M.tp.tc c s < M.tp.n
    exact cell_lt p7 (by omega) h
  | false =>
    show cell M.inn.ic c s < M.inn.m
    exact cell_lt o8 (by omega) h
theorem start_lt {M : Mc} (o : M.ok) (l : Str) : M.start l < M.inn.m := by
  obtain ⟨_, _, ⟨_, _, o3, o4, _⟩, _⟩ := o
  have := kd_le M.L l
  have h : kd M.L l < M.inn.st.length := by omega
  unfold Mc.start
  have e : M.inn.st.getD (kd M.L l) 0 = M.inn.st[kd M.L l] := by simp [h]
  rw [e]
  exact o4 _ (List.getElem_mem h)
def Mc.ans (M : Mc) (ds : List Nd) : List Bool := M.tp.an.getD (M.row true M.tp.s ds) []
section
variable {Pg : Program} {w : World} {K : PySem.W.Frag} {mg : Str → Option Value} {base : Heap} {P : Addr}
abbrev sAns : Stmt := top 37
abbrev nAns : List Str := ["machine", "document", "labels", "texts", "tops", "inners", "states", "sign", "part", "child"]
theorem scAns : FnScope nAns ["machine", "document"] (defScope sAns) := ⟨rfl, rfl, rfl, by decide +kernel, rfl, by decide +kernel, by decide +kernel⟩
def spAns (K : PySem.W.Frag) (P : Addr) : Sp := Pu P fun vs H R => ∃ (v : V) (d : Addr) (xs : List V) (M : Mc) (ds : List Nd), vs = [v, .ref d] ∧ McS (Sq K) H v M ∧ M.ok ∧ SqT K H d xs ∧ DpAll K H xs (ndsD ds) ∧ (sgs ds).all Sg.ok = true ∧ (sgs ds).length ≤ 1000 ∧ R = fun v H' => ItS (SqT K) H' v (bV (M.ans ds))
theorem ok_ans {f fC fS fK : Addr} {fd fdC fdS fdK : FuncData} (F : Fun K "answer" "answer" sAns f fd) (T : Ty K mg) (C : Df K mg "check_machine" sChk ["value"] fC fdC) (GC : FnOk Pg w K mg base CX0 6 fC fdC ["value"] (spChk K P))
    (S : Df K mg "signs_of" sSig ["document"] fS fdS) (GS : FnOk Pg w K mg base CX0 4 fS fdS ["document"] (spSig K P)) (Kn : Df K mg "kind_of" sKnd ["names", "value"] fK fdK) : FnOk Pg w K mg base CX0 7 f fd ["machine", "document"] (spAns K P) := by
  have GK : FnOk Pg w K mg base CX0 1 fK fdK ["names", "value"] (spKnd K P) := ok_knd Kn.F T
  refine F.ok scAns (fun vs H Q E h => ?_) (fun cdv A' outer s H vs Q E hr h => ?_)
  · obtain ⟨_, _, ⟨_, _, _, _, _, rfl, _⟩, _⟩ := h
    rfl
  · obtain ⟨t, _, ⟨v, d, xs, M, ds, rfl, hM, ok, hd, hds, sok, slen, rfl⟩, k⟩ := h
    have r1 : Room 1 _ := hr.mono (by decide)
    have r4 : Room 4 _ := hr.mono (by decide)
    refine ⟨_, (pss_cons (ps_asg (pe_call GC hr (by rfl) C.g C.F.kp C.b .nil pass0 (pa_cons (pv 0) pa_nil)) (pg_tup rfl (pgs_cons (pg_name (i := 2) scAns.nd rfl (.inl rfl)) (pgs_cons (pg_name (i := 3) scAns.nd rfl (.inl rfl)) (pgs_cons (pg_name (i := 4) scAns.nd rfl (.inl rfl)) (pgs_cons (pg_name (i := 5) scAns.nd rfl (.inl rfl)) pgs_nil))))))
      (pss_cons (ps_set (i := 6) scAns.nd rfl (Or.inl rfl) (pe_lst (pa_cons (pe_ix ix_tup (pv 4) pe_int (fun _ _ => rfl)) pa_nil)))
      (pss_cons (ps_for PassesOwn.never rfl (pi_tup (pe_call GS r4 (by rfl) S.g S.F.kp S.b .nil pass0 (pa_cons (pv 1) pa_nil))) (pg_name (i := 7) scAns.nd rfl (Or.inl rfl)) (pss_cons (ps_set (i := 8) scAns.nd rfl (Or.inl rfl) (pe_weak (t' := tPartI K) (pe_ifExp (pt_cmpR op_eq (pe_callB call_len_seq (by rfl) T.T.len (by decide +kernel) (pa_cons (pv 6) pa_nil)) pe_int (nomark _)) (pv 4) (pv 5)) (by
            rintro σ H Q ⟨B, zT, zI, pile, e6, e4, e5, hB, q⟩
            refine ⟨_, e6, B, _, rfl, .inl hB, rfl, _, rfl, ite2 (fun z => ⟨_, e4, ?_⟩) (fun z => ⟨_, e5, ?_⟩)⟩
            · have z1 := V.int.inj (of_decide_eq_true z)
              rw [iV_len] at z1
              rw [if_pos (by omega)] at q
              exact q
            · have z1 : ¬ pile.length = 1 := fun e => z (decide_eq_true (by rw [iV_len, e]; rfl))
              rw [if_neg z1] at q
              exact q)))
      (pss_one (ps_if (pt_cmpR op_eq (pe_ix ix_tup (pv 7) pe_int (fun _ _ => rfl)) pe_str (nomark _)) (pss_one (ps_asg (pe_ix ix_tup (pe_ix ix_tup (pe_ix ix_tup (pv 8) pe_int (fun _ _ => rfl)) (pe_call GK r1 (by rfl) Kn.g Kn.F.kp Kn.b .nil pass0 (pa_cons (pv 3) (pa_cons (pe_ix ix_tup (pv 7) pe_int (fun _ _ => rfl)) pa_nil))) (fun _ _ => rfl)) (pe_ix ix_list (pv 6) (pe_un un_neg pe_int) (fun _ _ => rfl)) (fun _ _ => rfl)) (pg_sub (pv 6) (pe_un un_neg pe_int) set_list))) (pss_one (ps_if (pt_cmpR op_eq (pe_ix ix_tup (pv 7) pe_int (fun _ _ => rfl)) pe_str (nomark _)) (pss_one (ps_expr (pe_bm PySem.F.plainAttrs_list PySem.F.slot_list_append PySem.F.type_list_append mt_append (pv 6) (pa_cons (pe_ix ix_tup (pe_ix ix_tup (pv 5) pe_int (fun _ _ => rfl)) (pe_call GK r1 (by rfl) Kn.g Kn.F.kp Kn.b .nil pass0 (pa_cons (pv 2) (pa_cons (pe_ix ix_tup (pv 7) pe_int (fun _ _ => rfl)) pa_nil))) (fun _ _ => rfl)) pa_nil)))) (pss_cons (ps_set (i := 9) scAns.nd rfl (Or.inl rfl) (pe_bm0 PySem.F.plainAttrs_list PySem.F.slot_list_pop PySem.F.type_list_pop mt_pop (pv 6)))
      (pss_cons (ps_set (i := 8) scAns.nd rfl (Or.inl rfl) (pe_weak (t' := tPartI K) (pe_ifExp (pt_cmpR op_eq (pe_callB call_len_seq (by rfl) T.T.len (by decide +kernel) (pa_cons (pv 6) pa_nil)) pe_int (nomark _)) (pv 4) (pv 5)) (by
            rintro σ H Q ⟨B, zT, zI, pile, e6, e4, e5, hB, q⟩
            refine ⟨_, e6, B, _, rfl, .inl hB, rfl, _, rfl, ite2 (fun z => ⟨_, e4, ?_⟩) (fun z => ⟨_, e5, ?_⟩)⟩
            · have z1 := V.int.inj (of_decide_eq_true z)
              rw [iV_len] at z1
              rw [if_pos (by omega)] at q
              exact q
            · have z1 : ¬ pile.length = 1 := fun e => z (decide_eq_true (by rw [iV_len, e]; rfl))
              rw [if_neg z1] at q
              exact q)))
      (pss_one (ps_asg (pe_ix ix_tup (pe_ix ix_tup (pe_ix ix_tup (pv 8) pe_int (fun _ _ => rfl)) (pv 9) (fun _ _ => rfl)) (pe_ix ix_list (pv 6) (pe_un un_neg pe_int) (fun _ _ => rfl)) (fun _ _ => rfl)) (pg_sub (pv 6) (pe_un un_neg pe_int) set_list)))))))))))
      (pss_one (ps_ret (pe_ix ix_tup (pe_ix ix_tup (pv 4) pe_int (fun _ _ => rfl)) (pe_ix ix_list (pv 6) pe_int (fun _ _ => rfl)) (fun _ _ => rfl))))))), ?_⟩
    refine ⟨_, rfl, t, _, ⟨v, M, rfl, hM, ok, rfl⟩, fun v1 H1 s1 hT => ?_⟩
    obtain ⟨a1, vL, vX, vT, vI, rfl, ha1, ⟨bL, rfl, hbL⟩, ⟨bX, rfl, hbX⟩, ⟨zT, t1, t2, t3, rfl, hzT, ht1, ht2, ht3⟩, ⟨zI, i1, i2, i3, rfl, hzI, ⟨bs, rfl, hbs⟩, hi2, hi3⟩⟩ := hT
    have pT : PartS K H1 zT M true := ⟨_, t1, t2, hzT, rfl, rfl, ht1, ht2⟩
    have pI : PartS K H1 zI M false := ⟨_, i2, i3, hzI, rfl, rfl, hi2, hi3⟩
    have fewL : M.L.length ≤ 6 := by
      have := ok.1
      unfold okLabs at this
      rw [Bool.and_eq_true, Bool.and_eq_true] at this
      exact of_decide_eq_true this.1.1
    have fewX : M.X.length ≤ 4 := by
      have := ok.2.1
      unfold okTxs at this
      rw [Bool.and_eq_true, Bool.and_eq_true] at this
      exact of_decide_eq_true this.1.1
    have o3 := ok.2.2.1
    have o4 := ok.2.2.2
    refine ⟨a1, _, rfl, ha1, rfl, _, _, rfl, _, _, rfl, _, _, rfl, _, _, rfl, rfl, ?_⟩
    refine ⟨_, rfl, zT, _, _, _, rfl, rfl, hzT, atI_nat (j := 1) rfl, (by show 1 ≤ sizeLine; decide), fun B hB => ?_⟩
    have BP : B ≠ P := nPt s1.2 hB
    have n2 : Sm P H1 (upd H1 B (.lst [.int (M.tp.s : Nat)])) := Sm.new s1.2 hB
    have s2 := s1.trans n2
    refine ⟨_, rfl, s2.2, _, ⟨d, xs, ds, rfl, s2.tup t hd, nds_tp (Tp.sm t s2) _ _ hds, sok, slen, rfl⟩, fun v3 H3 s3 ⟨q, ys, e3, hrow⟩ => ?_⟩
    subst e3
    have lg : ys.length = (sgs ds).length := Paired.length hrow.2.1
    refine ⟨q, rfl, ⟨_, hrow.1⟩, for_tup (xs := ys) (fun i σ H' => ∃ (pile : List Nat) (v7 v8 v9 : Option V), σ = [some v, some (.ref d), some (.ref bL), some (.ref bX), some (.ref zT), some (.ref zI), some (.ref B), v7, v8, v9] ∧
      Sm P H1 H' ∧ Tp H3 H' ∧ H' B = some (.lst (iV pile.reverse)) ∧ okPile M pile ∧ pile = M.run [M.tp.s] ((sgs ds).take i) ∧ dep ((sgs ds).drop i) (pile.length - 1) = some 0 ∧ pile.length ≤ i + 1)
      ⟨[M.tp.s], none, none, none, rfl, n2.trans s3, Tp.refl _, s3.atL s2.2 upd_same, o4.2.2.1, rfl, dep_doc ds, Nat.le_refl _⟩ (fun i σ H' _ ⟨_, _, _, _, _, _, tp, _⟩ => tp.sq hrow.1) ?_ ?_⟩
    · rintro i x σ H' hx ⟨pile, v7, v8, v9, rfl, m1, tp1, hB1, okp, hrun, hdep, hlen⟩
      obtain ⟨g, hg, qg, rfl, hqg0⟩ := paired_get hrow.2.1 hx
      have hqg : SqT K H' qg g.vs := tp1.sq hqg0
      have hi : i < (sgs ds).length := (List.getElem?_eq_some_iff.mp hg).1
      rw [drop_at hg] at hdep
      have nxt : M.run [M.tp.s] ((sgs ds).take (i + 1)) = M.step pile g := by
        rw [take_snoc hg, run_app, ← hrun]
        rfl
      refine ⟨B, zT, zI, pile.reverse, rfl, rfl, rfl, SqL.of hB1, ?_⟩
      cases pile with
      | nil => exact okp.elim
      | cons s r =>
        have ez : (if (s :: r).reverse.length = 1 then zT else zI) = if r.isEmpty then zT else zI := by
          cases r <;> simp
        rw [ez]
        have hpart : PartS K H' (if r.isEmpty then zT else zI) M r.isEmpty := by
          cases r with
          | nil => exact pT.mono s1.2 m1
          | cons y r => exact pI.mono s1.2 m1
        have hs := okPile_hd okp
        generalize (if r.isEmpty then zT else zI) = zp at hpart ⊢
        rw [iV_rev] at hB1
        have fin : ∀ (n : Nat) (H4 : Hp) (σ4 : L2.St) (w8 w9 : Option V), Sm P H' H4 → n < (if r.isEmpty then M.tp.n else M.inn.m) → M.step (s :: r) g = n :: r → dep ((sgs ds).drop (i + 1)) ((s :: r).length - 1) = some 0 → σ4 = [some v, some (.ref d), some (.ref bL), some (.ref bX), some (.ref zT), some (.ref zI), some (.ref B), some (.ref qg), w8, w9] →
            ∃ (pile : List Nat) (v7 v8 v9 : Option V), σ4 = [some v, some (.ref d), some (.ref bL), some (.ref bX), some (.ref zT), some (.ref zI), some (.ref B), v7, v8, v9] ∧
              Sm P H1 (upd H4 B (.lst ((iV r.reverse ++ [V.int (s : Nat)]).set (iV r.reverse).length (.int (n : Nat))))) ∧ Tp H3 (upd H4 B (.lst ((iV r.reverse ++ [V.int (s : Nat)]).set (iV r.reverse).length (.int (n : Nat))))) ∧
              upd H4 B (.lst ((iV r.reverse ++ [V.int (s : Nat)]).set (iV r.reverse).length (.int (n : Nat)))) B = some (.lst (iV pile.reverse)) ∧ okPile M pile ∧ pile = M.run [M.tp.s] ((sgs ds).take (i + 1)) ∧ dep ((sgs ds).drop (i + 1)) (pile.length - 1) = some 0 ∧ pile.length ≤ i + 1 + 1 := by
          intro n H4 σ4 w8 w9 s4 hn hst hdp hσ
          have hB4 := s4.atL m1.2 hB1
          refine ⟨n :: r, _, w8, w9, hσ, (m1.trans s4).mut hB BP, (tp1.trans (Tp.sm m1.2 s4)).trans (Tp.lst hB4), ?_, okPile_set okp hn, by rw [nxt, hst], hdp, by simp at hlen ⊢; omega⟩
          rw [upd_same, set_last, iV_rev]
        cases g with
        | tx z =>
          refine ⟨_, rfl, qg, _, _, _, rfl, rfl, hqg, atI_nat (j := 0) rfl, rfl, _, rfl, iteT ?_⟩
          obtain ⟨xs2, c2, c3, hz2, e2, e3, R2, R3⟩ := hpart
          have hk : kd M.X z < (if r.isEmpty then M.tp.tt else M.inn.it).length := by
            have := kd_le M.X z
            have q1 := o3.2.2.2.2.1
            have q2 := o4.2.2.2.1
            cases r with
            | nil =>
              show _ < M.tp.tt.length
              omega
            | cons y r =>
              show _ < M.inn.it.length
              omega
          have hlt : M.txt r.isEmpty z s < (if r.isEmpty then M.tp.n else M.inn.m) := txt_lt ok hs
          obtain ⟨a2, ys2, b2, rfl, ha2, hy2, hb2⟩ := rows_at R2 hk
          have hsl : s < ((if r.isEmpty then M.tp.tt else M.inn.it).getD (kd M.X z) []).length := by
            have m6 : okMaps (if r.isEmpty then M.tp.tt else M.inn.it) (if r.isEmpty then M.tp.n else M.inn.m) := by
              cases r with
              | nil => exact o4.2.2.2.2.1
              | cons y r => exact o3.2.2.2.2.2.1
            have e : (if r.isEmpty then M.tp.tt else M.inn.it).getD (kd M.X z) [] = (if r.isEmpty then M.tp.tt else M.inn.it)[kd M.X z] := getD_at hk
            rw [e, (m6 _ (List.getElem_mem hk)).1]
            exact hs
          refine ⟨_, rfl, zp, _, _, _, rfl, rfl, hz2, atI_nat (j := 2) e2, _, rfl, _, rfl, qg, _, _, _, rfl, rfl, hqg, atI_nat (j := 1) rfl, m1.2, _, ⟨bX, M.X, z, rfl, m1.tup s1.2 hbX, by omega, rfl⟩, fun kv H4 s4 ek => ?_⟩
          subst ek
          have hB4 := s4.atL m1.2 hB1
          refine ⟨a2, ys2, _, _, rfl, rfl, s4.tup m1.2 ha2, atI_nat hy2, _, rfl, _, rfl, B, _, _, _, rfl, rfl, SqL.of hB4, atI_last _ _, b2, _, _, _, rfl, rfl, s4.tup m1.2 hb2, atI_nat (iV_get hsl), ?_⟩
          refine ⟨_, rfl, _, rfl, B, _, _, (iV r.reverse).length, rfl, rfl, hB4, by rw [List.length_append]; exact ixN_last _, ?_⟩
          exact fin (M.txt r.isEmpty z s) H4 _ _ _ s4 hlt rfl hdep rfl
        | op l =>
          refine ⟨_, rfl, qg, _, _, _, rfl, rfl, hqg, atI_nat (j := 0) rfl, rfl, _, rfl, ?_⟩
          rw [dstr (by decide +kernel)]
          refine iteF ⟨_, rfl, qg, _, _, _, rfl, rfl, hqg, atI_nat (j := 0) rfl, rfl, _, rfl, iteT ?_⟩
          have hst : kd M.L l < M.inn.st.length := by
            have := kd_le M.L l
            have q1 := o3.2.2.1
            omega
          refine ⟨_, rfl, .inl ⟨rfl, _, SqL.of hB1⟩, _, rfl, zI, _, _, _, rfl, rfl, m1.tup s1.2 hzI, atI_nat (j := 1) rfl, _, rfl, _, rfl, qg, _, _, _, rfl, rfl, hqg, atI_nat (j := 1) rfl, m1.2, _, ⟨bL, M.L, l, rfl, m1.tup s1.2 hbL, by omega, rfl⟩, fun kv H4 s4 ek => ?_⟩
          subst ek
          have hB4 := s4.atL m1.2 hB1
          refine ⟨bs, _, _, _, rfl, rfl, s4.tup m1.2 (m1.tup s1.2 hbs), atI_nat (iV_get hst), B, _, _, rfl, rfl, hB4, ?_, ?_⟩
          · rw [List.length_append, iV_len, List.length_reverse]
            simp at hlen
            exact Nat.lt_of_lt_of_le (by show r.length + 1 < 10000; omega) (by decide)
          · refine ⟨M.start l :: s :: r, _, _, _, rfl, (m1.trans s4).mut hB BP, (tp1.trans (Tp.sm m1.2 s4)).trans (Tp.lst hB4), ?_, okPile_push okp (start_lt ok l), by rw [nxt]; rfl, hdep, by simp at hlen ⊢; omega⟩
            rw [upd_same, iV_rev, iV_rev]
            rfl
        | cl =>
          cases r with
          | nil => cases hdep
          | cons s' r' =>
            refine ⟨_, rfl, qg, _, _, _, rfl, rfl, hqg, atI_nat (j := 0) rfl, rfl, _, rfl, ?_⟩
            rw [dstr (by decide +kernel)]
            refine iteF ⟨_, rfl, qg, _, _, _, rfl, rfl, hqg, atI_nat (j := 0) rfl, rfl, _, rfl, ?_⟩
            rw [dstr (by decide +kernel)]
            refine iteF ?_
            refine ⟨_, rfl, .inl ⟨rfl, _, SqL.of hB1⟩, B, _, _, rfl, rfl, hB1, pop_last _ _, ?_⟩
            rw [List.dropLast_concat, iV_rev]
            have m2 : Sm P H1 (upd H' B (.lst (iV r'.reverse ++ [V.int (s' : Nat)]))) := m1.mut hB BP
            have tp2 : Tp H3 (upd H' B (.lst (iV r'.reverse ++ [V.int (s' : Nat)]))) := tp1.trans (Tp.lst hB1)
            refine ⟨B, zT, zI, (s' :: r').reverse, rfl, rfl, rfl, SqL.of (by rw [upd_same, iV_rev]), ?_⟩
            have ez' : (if (s' :: r').reverse.length = 1 then zT else zI) = if r'.isEmpty then zT else zI := by
              cases r' <;> simp
            rw [ez']
            have hpart' : PartS K (upd H' B (.lst (iV r'.reverse ++ [V.int (s' : Nat)]))) (if r'.isEmpty then zT else zI) M r'.isEmpty := by
              cases r' with
              | nil => exact pT.mono s1.2 m2
              | cons y r => exact pI.mono s1.2 m2
            obtain ⟨hc, okp'⟩ := okPile_tl okp
            have hs' := okPile_hd okp'
            generalize (if r'.isEmpty then zT else zI) = zp' at hpart' ⊢
            obtain ⟨xs2, c2, c3, hz2, e2, e3, R2, R3⟩ := hpart'
            have hk : s < (if r'.isEmpty then M.tp.tc else M.inn.ic).length := by
              have q1 := o3.2.2.2.2.2.2.1
              have q2 := o4.2.2.2.2.2.1
              cases r' with
              | nil =>
                show _ < M.tp.tc.length
                omega
              | cons y r =>
                show _ < M.inn.ic.length
                omega
            have hlt : M.chi r'.isEmpty s s' < (if r'.isEmpty then M.tp.n else M.inn.m) := chi_lt ok hc hs'
            obtain ⟨a2, ys2, b2, rfl, ha2, hy2, hb2⟩ := rows_at R3 hk
            have hsl : s' < ((if r'.isEmpty then M.tp.tc else M.inn.ic).getD s []).length := by
              have m6 : okMaps (if r'.isEmpty then M.tp.tc else M.inn.ic) (if r'.isEmpty then M.tp.n else M.inn.m) := by
                cases r' with
                | nil => exact o4.2.2.2.2.2.2.1
                | cons y r => exact o3.2.2.2.2.2.2.2
              have e : (if r'.isEmpty then M.tp.tc else M.inn.ic).getD s [] = (if r'.isEmpty then M.tp.tc else M.inn.ic)[s] := getD_at hk
              rw [e, (m6 _ (List.getElem_mem hk)).1]
              exact hs'
            refine ⟨_, rfl, zp', _, _, _, rfl, rfl, hz2, atI_nat (j := 3) e3, _, rfl, a2, ys2, _, _, rfl, rfl, ha2, atI_nat hy2, _, rfl, _, rfl, B, _, _, _, rfl, rfl, SqL.of upd_same, atI_last _ _, b2, _, _, _, rfl, rfl, hb2, atI_nat (iV_get hsl), ?_⟩
            refine ⟨_, rfl, _, rfl, B, _, _, (iV r'.reverse).length, rfl, rfl, upd_same, by rw [List.length_append]; exact ixN_last _, ?_⟩
            refine ⟨M.chi r'.isEmpty s s' :: r', _, _, _, rfl, m2.mut hB BP, tp2.trans (Tp.lst upd_same), ?_, okPile_set okp' hlt, by rw [nxt]; rfl, hdep, by simp at hlen ⊢; omega⟩
            rw [upd_same, set_last, iV_rev]
            rfl
    · rintro σ H' ⟨pile, v7, v8, v9, rfl, m1, tp1, hB1, okp, hrun, hdep, hlen⟩
      rw [lg, List.take_length, run_row] at hrun
      subst hrun
      have hlt : M.row true M.tp.s ds < M.tp.an.length := by
        rw [o4.2.2.2.2.2.2.2.1]
        exact okp
      obtain ⟨a2, ys2, b2, rfl, ha2, hy2, hb2⟩ := arows_at (ht3.mono mo_tup s1.2 m1) hlt
      refine ⟨_, rfl, zT, _, _, _, rfl, rfl, m1.tup s1.2 hzT, atI_nat (j := 4) rfl, _, rfl, B, _, _, _, rfl, rfl, SqL.of hB1, atI_nat (j := 0) rfl, a2, _, _, _, rfl, rfl, ha2, atI_nat hy2, ?_⟩
      exact k _ _ (s1.trans m1) ⟨b2, rfl, hb2⟩
end
end K6

set_option Elab.async false
set_option linter.all false
set_option maxRecDepth 100000
set_option maxHeartbeats 4000000
namespace SoM
open PySem PySem.Spec PyProof.Rows L2
/-! ### a tuple that isn't empty, no times, once -/
theorem mul_none (l : Addr) (items : Array Value) (n : Nat) (dd : Option Addr) (sl : Array (Option Value)) (u : Tok) (hi : items.isEmpty = false) :
    Meets (Builtin.«tuple.__mul__» ⟨[.ref l, .int 0 u], []⟩) (fun _ R s => s.heap.get? l = some { cls := .type "tuple", dict := dd, data := .seq items n, slots := sl } ∧
      R (.ok (.ret (Value.ref s.heap.objs.size))) { s with heap := s.heap.push { cls := Value.type "tuple", data := Data.seq #[] }, toks := s.toks }) :=
  .of_wp fun prog w A R s h => by
    obtain ⟨hp, g, d, tk, os⟩ := s
    obtain ⟨hl, h⟩ := h
    have f1 := AutoSeq1.idx_int
    wp_walk using wpAny_loadPart' hl
    repeat (first
      | (refine wpAny_ite_false (decide_eq_false (by rw [hi]; decide)) ?_; wp_walk using wpAny_loadPart' hl)
      | (refine wpAny_ite_true (decide_eq_true (by rw [hi]; decide)) ?_; wp_walk using wpAny_loadPart' hl))
    exact ⟨_, rfl, h⟩
theorem mul_once (l : Addr) (items : Array Value) (n : Nat) (dd : Option Addr) (sl : Array (Option Value)) (u : Tok) (hi : items.isEmpty = false) :
    Meets (Builtin.«tuple.__mul__» ⟨[.ref l, .int 1 u], []⟩) (fun _ R s => s.heap.get? l = some { cls := .type "tuple", dict := dd, data := .seq items n, slots := sl } ∧
      R (.ok (.ret (Value.ref l))) s) :=
  .of_wp fun prog w A R s h => by
    obtain ⟨hp, g, d, tk, os⟩ := s
    obtain ⟨hl, h⟩ := h
    have f1 := AutoSeq1.idx_int
    wp_walk using wpAny_loadPart' hl
    repeat (first
      | (refine wpAny_ite_false (decide_eq_false (by rw [hi]; decide)) ?_; wp_walk using wpAny_loadPart' hl)
      | (refine wpAny_ite_true (decide_eq_true (by rw [hi]; decide)) ?_; wp_walk using wpAny_loadPart' hl))
    exact ⟨_, rfl, h⟩
def rRepS (K : PySem.W.Frag) : R2 := fun x y H Q => ∃ l k xs, x = .ref l ∧ y = .int k ∧ SqT K H l xs ∧ xs ≠ [] ∧ 0 ≤ k ∧ k ≤ 1000 ∧ xs.length ≤ 1000 ∧ (k = 1 → Q (.ref l) H) ∧ (k ≠ 1 → ∀ p, H p = none → Q (.ref p) (upd H p (.tup (List.replicate k.toNat xs).flatten)))
theorem op_repS {X : Cx} : OpR X (binaryOp .Mult) (rRepS X.K) := by
  intro pins s σ H x y v u Q I rx ry h
  obtain ⟨l, k, xs, rfl, rfl, hT, hne, h1, h2, hz, q1, q2⟩ := h
  by_cases k2 : 2 ≤ k
  · exact op_repT pins s σ H _ _ v u Q I rx ry ⟨l, k, xs, rfl, rfl, hT, hne, k2, h2, hz, q2 (by omega)⟩
  cases rx
  obtain ⟨t, rfl⟩ := ry
  obtain ⟨its, r, ⟨⟨cls, dd, data, sl⟩, ho, hc, n, hd⟩, hs⟩ := I.tuple hT
  simp only at hc hd
  subst hc hd
  have hn : its ≠ [] := fun e => hne (by
    have hle := r.length
    rw [e] at hle
    exact List.eq_nil_of_length_eq_zero hle)
  have hi : its.toArray.isEmpty = false := by
    cases its with
    | nil => exact absurd rfl hn
    | cons a b => rfl
  by_cases k1 : k = 1
  · subst k1
    refine wpAny_binaryOp_repeat_ref (T := "tuple") (U := "int") (by decide) ⟨_, ho, rfl⟩ (fun s' => typeIs_int s' 1 t) noFill_tuple_mul F.fills_int_mul F.slot_int_rmul repeat_tuple F.slot_int_index.lookup
      (call_meets F.slot_int_rmul (typeIs_int s 1 t) F.entry_int_rmul (F.args_int_rmul_2 _ _) (int_rmul_tuple 1 t l its.toArray n dd sl)
        ⟨ho, rfl, ⟨_, ho, rfl⟩, call_meets F.slot_tuple_mul ⟨_, ho, rfl⟩ F.entry_tuple_mul (F.args_tuple_mul_2 _ _) (mul_once l its.toArray n dd sl t hi) ⟨ho, ?_⟩⟩)
    exact ⟨.ref l, H, I, rfl, q1 rfl⟩
  · have k0 : k = 0 := by omega
    subst k0
    refine wpAny_binaryOp_repeat_ref (T := "tuple") (U := "int") (by decide) ⟨_, ho, rfl⟩ (fun s' => typeIs_int s' 0 t) noFill_tuple_mul F.fills_int_mul F.slot_int_rmul repeat_tuple F.slot_int_index.lookup
      (call_meets F.slot_int_rmul (typeIs_int s 0 t) F.entry_int_rmul (F.args_int_rmul_2 _ _) (int_rmul_tuple 0 t l its.toArray n dd sl)
        ⟨ho, rfl, ⟨_, ho, rfl⟩, call_meets F.slot_tuple_mul ⟨_, ho, rfl⟩ F.entry_tuple_mul (F.args_tuple_mul_2 _ _) (mul_none l its.toArray n dd sl t hi) ⟨ho, ?_⟩⟩)
    refine ⟨.ref s.heap.objs.size, _, I.laid (t' := s.toks) (o := .tup (List.replicate (0 : Int).toNat xs).flatten) (fun b ob q => Heap.get?_push_of_some _ q) (Nat.le_refl _) ?_, rfl, q2 k1 _ (I.hok.fresh (Nat.le_refl _))⟩
    exact ⟨Nat.zero_le _, [], .nil, IsTup.new _ _⟩
end SoM

set_option Elab.async false
set_option linter.all false
set_option maxRecDepth 100000
set_option maxHeartbeats 4000000
namespace K6
open PySem PySem.Spec PyProof.Rows L2 So
/-- where draws come from -/
def Box (H : Hp) (b : Addr) : Prop := ∃ g s : Int, H b = some (.lst [.int g, .int s]) ∧ 0 ≤ g ∧ 0 ≤ s ∧ s ≤ 2147483563
section
variable {Pg : Program} {w : World} {K : PySem.W.Frag} {mg : Str → Option Value} {base : Heap} {P : Addr}
/-! ### _law_box -/
abbrev sBox : Stmt := top 43
theorem scBox : FnScope ["script", "k", "cell", "great"] ["script", "k"] (defScope sBox) := ⟨rfl, rfl, rfl, by decide +kernel, rfl, by decide +kernel, by decide +kernel⟩
def spBox (K : PySem.W.Frag) (P : Addr) : Sp := fun vs H Q _ => GxR.TabG H P ∧ ∃ (a : Addr) (ns : List Int) (k : Nat), vs = [.ref a, .int (k : Int)] ∧ SqL K H a (ns.map V.int) ∧ ns.length ≤ 63 ∧ k ≤ 1000 ∧
  ∀ b H', Sm P H H' → H b = none → b ≠ P → Box H' b → Q (.ref b) H'
theorem item_int {ns : List Int} {j : Nat} (h : j < ns.length) : ∃ n, (ns.map V.int)[j]? = some (V.int n) := ⟨ns[j], by rw [List.getElem?_map, List.getElem?_eq_getElem h]; rfl⟩
theorem ok_box {f : Addr} {fd : FuncData} (F : Fun K "_law_box" "_law_box" sBox f fd) (T : Tx K mg) : FnOk Pg w K mg base CX0 1 f fd ["script", "k"] (spBox K P) := by
  refine F.ok scBox (fun vs H Q E h => ?_) (fun cdv A outer s H vs Q E hr h => ?_)
  · obtain ⟨_, _, _, _, rfl, _⟩ := h
    rfl
  · obtain ⟨t, a, ns, k, rfl, hS, hlen, hk, kont⟩ := h
    refine ⟨_, pss_cons (ps_set (i := 2) scBox.nd rfl (Or.inl rfl) (pe_op op_add (pe_op op_mul pe_int (pv 1)) pe_int))
      (pss_cons (ps_if (pt_cmpR op_lt (pv 1) (pe_callB call_len_seq (by rfl) T.len (by decide +kernel) (pa_cons (pv 0) pa_nil)) (nomark _))
        (pss_one (ps_set (i := 2) scBox.nd rfl (Or.inl rfl) (pe_callB call_abs (by rfl) T.abs (by decide +kernel) (pa_cons (pe_callTy call_int1 (by rfl) T.int (by decide +kernel) (pa_cons (pe_ix ix_list (pv 0) (pv 1) (fun _ _ => rfl)) pa_nil)) pa_nil))))
        (pss_one (ps_if (pt_cmpR op_gt (pe_callB call_len_seq (by rfl) T.len (by decide +kernel) (pa_cons (pv 0) pa_nil)) pe_int (nomark _))
          (pss_one (ps_set (i := 2) scBox.nd rfl (Or.inl rfl) (pe_op op_add (pv 2) (pe_op op_mul (pe_op op_mod (pe_callTy call_int1 (by rfl) T.int (by decide +kernel) (pa_cons (pe_callB call_abs (by rfl) T.abs (by decide +kernel) (pa_cons (pe_callTy call_int1 (by rfl) T.int (by decide +kernel)
              (pa_cons (pe_ix ix_list (pv 0) (pe_op op_mod (pe_callTy call_int1 (by rfl) T.int (by decide +kernel) (pa_cons (pv 1) pa_nil)) (pe_callB call_len_seq (by rfl) T.len (by decide +kernel) (pa_cons (pv 0) pa_nil))) (fun _ _ => rfl)) pa_nil)) pa_nil)) pa_nil)) pe_int) pe_int))))
          pss_nil)))
      (pss_cons (ps_set (i := 3) scBox.nd rfl (Or.inl rfl) (pe_ifExp (pt_cmpR op_ge (pv 2) (pe_op op_pow pe_int pe_int) (nomark _)) (pv 2) pe_int))
      (pss_one (ps_ret (pe_lst (pa_cons (pv 3) (pa_cons (pe_op op_add (pe_op op_mod (pe_callTy call_int1 (by rfl) T.int (by decide +kernel) (pa_cons (pe_op op_add (pe_op op_mul (pe_op op_mod (pe_callTy call_int1 (by rfl) T.int (by decide +kernel) (pa_cons (pv 2) pa_nil)) pe_int) pe_int) (pe_op op_mul pe_int (pv 1))) pa_nil)) pe_int) pe_int) pa_nil))))))), ?_⟩
    have nP : ∀ {b : Addr}, H b = none → b ≠ P := fun e z => by
      obtain ⟨ps, q, _⟩ := t
      rw [z, q] at e
      cases e
    refine ⟨_, rfl, _, _, rfl, rfl, .inl ⟨(by show -(2 ^ 64) < (8087 : Int); decide), (by show (8087 : Int) < 2 ^ 64; decide)⟩, _, _, rfl, rfl, ?_⟩
    refine ⟨_, rfl, _, rfl, a, _, rfl, .inl hS, _, _, rfl, rfl, _, rfl, ?_⟩
    refine ite2 (fun h1 => ?_) (fun h1 => ?_)
    · have h1' : (k : Int) < ((ns.map V.int).length : Nat) := of_decide_eq_true h1
      rw [List.length_map] at h1'
      obtain ⟨n, hn⟩ := item_int (ns := ns) (j := k) (by omega)
      refine ⟨_, rfl, _, rfl, a, _, _, _, rfl, rfl, hS, atI_nat hn, .inl ⟨_, rfl, _, rfl, ?_⟩⟩
      have c0 : 0 ≤ (if n < 0 then -n else n) := by split <;> omega
      generalize (if n < 0 then -n else n) = c at c0
      refine ⟨_, rfl, _, _, rfl, rfl, ⟨by decide, by decide, by decide⟩, _, _, rfl, rfl, _, rfl, ?_⟩
      refine ite2 (fun _ => ?_) (fun _ => ?_)
      · refine ⟨_, rfl, ?_⟩
        refine ⟨_, rfl, _, rfl, .inl ⟨_, rfl, _, _, rfl, rfl, (by show (0 : Int) < 2147483563; decide), _, _, rfl, rfl, .inr ⟨(by show -(2 ^ 64) < (40014 : Int); decide), (by show (40014 : Int) < 2 ^ 64; decide)⟩, _, rfl, _, _, rfl, rfl, .inl ⟨(by show -(2 ^ 64) < (1889 : Int); decide), (by show (1889 : Int) < 2 ^ 64; decide)⟩, _, _, rfl, rfl, .inl ⟨_, rfl, _, _, rfl, rfl, (by show (0 : Int) < 2147483563; decide), _, _, rfl, rfl, (by show 2 ≤ sizeLine; decide), fun q hq => ?_⟩⟩⟩
        exact kont q _ (Sm.new t hq) hq (nP hq) ⟨_, _, upd_same, c0, by omega, by omega⟩
      · refine ⟨_, rfl, _, rfl, .inl ⟨_, rfl, _, _, rfl, rfl, (by show (0 : Int) < 2147483563; decide), _, _, rfl, rfl, .inr ⟨(by show -(2 ^ 64) < (40014 : Int); decide), (by show (40014 : Int) < 2 ^ 64; decide)⟩, _, rfl, _, _, rfl, rfl, .inl ⟨(by show -(2 ^ 64) < (1889 : Int); decide), (by show (1889 : Int) < 2 ^ 64; decide)⟩, _, _, rfl, rfl, .inl ⟨_, rfl, _, _, rfl, rfl, (by show (0 : Int) < 2147483563; decide), _, _, rfl, rfl, (by show 2 ≤ sizeLine; decide), fun q hq => ?_⟩⟩⟩
        exact kont q _ (Sm.new t hq) hq (nP hq) ⟨_, _, upd_same, Int.le_refl 0, by omega, by omega⟩
    · refine ⟨_, rfl, a, _, rfl, .inl hS, _, _, rfl, rfl, _, rfl, ?_⟩
      have c1 : (0 : Int) ≤ 8087 * (k : Int) + 1889 := by omega
      refine ite2 (fun h2 => ?_) (fun h2 => ?_)
      · have h2' : ((ns.map V.int).length : Nat) > (0 : Int) := of_decide_eq_true h2
        rw [List.length_map] at h2'
        obtain ⟨n, hn⟩ := item_int (ns := ns) (j := k % ns.length) (Nat.mod_lt _ (by omega))
        have ej : (k : Int) % (((ns.map V.int).length : Nat) : Int) = ((k % ns.length : Nat) : Int) := by
          rw [List.length_map]
          exact (Int.natCast_emod k ns.length).symm
        have at2 : atI (ns.map V.int) ((k : Int) % (((ns.map V.int).length : Nat) : Int)) = some (V.int n) := by
          rw [ej]
          exact atI_nat hn
        refine ⟨_, rfl, _, rfl, _, rfl, .inl ⟨_, rfl, _, rfl, a, _, rfl, .inl hS, _, _, rfl, rfl, (by rw [List.length_map]; exact h2'), a, _, _, _, rfl, rfl, hS, at2, .inl ⟨_, rfl, _, rfl, .inl ⟨_, rfl, _, _, rfl, rfl, (by show (0 : Int) < 2147483563; decide), _, _, rfl, rfl, .inr ⟨(by show -(2 ^ 64) < (51151 : Int); decide), (by show (51151 : Int) < 2 ^ 64; decide)⟩, _, _, rfl, rfl, ?_⟩⟩⟩⟩
        have m0 : 0 ≤ (if n < 0 then -n else n) % 2147483563 := Int.emod_nonneg _ (by decide)
        have c0 : 0 ≤ 8087 * (k : Int) + 1889 + (if n < 0 then -n else n) % 2147483563 * 51151 := by omega
        refine ⟨_, rfl, _, _, rfl, rfl, ⟨by decide, by decide, by decide⟩, _, _, rfl, rfl, _, rfl, ?_⟩
        refine ite2 (fun _ => ?_) (fun _ => ?_)
        · refine ⟨_, rfl, ?_⟩
          refine ⟨_, rfl, _, rfl, .inl ⟨_, rfl, _, _, rfl, rfl, (by show (0 : Int) < 2147483563; decide), _, _, rfl, rfl, .inr ⟨(by show -(2 ^ 64) < (40014 : Int); decide), (by show (40014 : Int) < 2 ^ 64; decide)⟩, _, rfl, _, _, rfl, rfl, .inl ⟨(by show -(2 ^ 64) < (1889 : Int); decide), (by show (1889 : Int) < 2 ^ 64; decide)⟩, _, _, rfl, rfl, .inl ⟨_, rfl, _, _, rfl, rfl, (by show (0 : Int) < 2147483563; decide), _, _, rfl, rfl, (by show 2 ≤ sizeLine; decide), fun q hq => ?_⟩⟩⟩
          exact kont q _ (Sm.new t hq) hq (nP hq) ⟨_, _, upd_same, c0, by omega, by omega⟩
        · refine ⟨_, rfl, _, rfl, .inl ⟨_, rfl, _, _, rfl, rfl, (by show (0 : Int) < 2147483563; decide), _, _, rfl, rfl, .inr ⟨(by show -(2 ^ 64) < (40014 : Int); decide), (by show (40014 : Int) < 2 ^ 64; decide)⟩, _, rfl, _, _, rfl, rfl, .inl ⟨(by show -(2 ^ 64) < (1889 : Int); decide), (by show (1889 : Int) < 2 ^ 64; decide)⟩, _, _, rfl, rfl, .inl ⟨_, rfl, _, _, rfl, rfl, (by show (0 : Int) < 2147483563; decide), _, _, rfl, rfl, (by show 2 ≤ sizeLine; decide), fun q hq => ?_⟩⟩⟩
          exact kont q _ (Sm.new t hq) hq (nP hq) ⟨_, _, upd_same, Int.le_refl 0, by omega, by omega⟩
      · refine ⟨_, rfl, _, _, rfl, rfl, ⟨by decide, by decide, by decide⟩, _, _, rfl, rfl, _, rfl, ?_⟩
        refine ite2 (fun _ => ?_) (fun _ => ?_)
        · refine ⟨_, rfl, ?_⟩
          refine ⟨_, rfl, _, rfl, .inl ⟨_, rfl, _, _, rfl, rfl, (by show (0 : Int) < 2147483563; decide), _, _, rfl, rfl, .inr ⟨(by show -(2 ^ 64) < (40014 : Int); decide), (by show (40014 : Int) < 2 ^ 64; decide)⟩, _, rfl, _, _, rfl, rfl, .inl ⟨(by show -(2 ^ 64) < (1889 : Int); decide), (by show (1889 : Int) < 2 ^ 64; decide)⟩, _, _, rfl, rfl, .inl ⟨_, rfl, _, _, rfl, rfl, (by show (0 : Int) < 2147483563; decide), _, _, rfl, rfl, (by show 2 ≤ sizeLine; decide), fun q hq => ?_⟩⟩⟩
          exact kont q _ (Sm.new t hq) hq (nP hq) ⟨_, _, upd_same, c1, by omega, by omega⟩
        · refine ⟨_, rfl, _, rfl, .inl ⟨_, rfl, _, _, rfl, rfl, (by show (0 : Int) < 2147483563; decide), _, _, rfl, rfl, .inr ⟨(by show -(2 ^ 64) < (40014 : Int); decide), (by show (40014 : Int) < 2 ^ 64; decide)⟩, _, rfl, _, _, rfl, rfl, .inl ⟨(by show -(2 ^ 64) < (1889 : Int); decide), (by show (1889 : Int) < 2 ^ 64; decide)⟩, _, _, rfl, rfl, .inl ⟨_, rfl, _, _, rfl, rfl, (by show (0 : Int) < 2147483563; decide), _, _, rfl, rfl, (by show 2 ≤ sizeLine; decide), fun q hq => ?_⟩⟩⟩
          exact kont q _ (Sm.new t hq) hq (nP hq) ⟨_, _, upd_same, Int.le_refl 0, by omega, by omega⟩
end
end K6

set_option Elab.async false
set_option linter.all false
set_option maxRecDepth 100000
set_option maxHeartbeats 4000000
namespace K6
open PySem PySem.Spec PyProof.Rows L2 So
/-- behind a draw -/
def Drw (H : Hp) (b : Addr) (k : Hp → Prop) : Prop := ∀ g s : Int, 0 ≤ g → 0 ≤ s → s ≤ 2147483563 → k (upd H b (.lst [.int g, .int s]))
theorem box_of {H : Hp} {b : Addr} {g s : Int} (h1 : 0 ≤ g) (h2 : 0 ≤ s) (h3 : s ≤ 2147483563) : Box (upd H b (.lst [.int g, .int s])) b := ⟨g, s, upd_same, h1, h2, h3⟩
section
variable {Pg : Program} {w : World} {K : PySem.W.Frag} {mg : Str → Option Value} {base : Heap} {P : Addr}
/-! ### _law_take -/
abbrev sTak : Stmt := top 44
theorem scTak : FnScope ["box", "many", "digit", "raw"] ["box", "many"] (defScope sTak) := ⟨rfl, rfl, rfl, by decide +kernel, rfl, by decide +kernel, by decide +kernel⟩
def spTak : Sp := fun vs H Q _ => ∃ (b : Addr) (n : Int), vs = [.ref b, .int n] ∧ Box H b ∧ 0 < n ∧ n < 1000000000 ∧ ∀ r : Int, 0 ≤ r → r < n → Drw H b (fun H' => Q (.int r) H')
theorem ok_tak {f : Addr} {fd : FuncData} (F : Fun K "_law_take" "_law_take" sTak f fd) (T : Tx K mg) : FnOk Pg w K mg base CX0 1 f fd ["box", "many"] spTak := by
  refine F.ok scTak (fun vs H Q E h => ?_) (fun cdv A outer s H vs Q E hr h => ?_)
  · obtain ⟨_, _, rfl, _⟩ := h
    rfl
  · obtain ⟨b, n, rfl, ⟨g, z, hb, hg, hz, hz2⟩, hn, hn2, kont⟩ := h
    refine ⟨_, pss_cons (ps_if (pt_cmpR op_gt (pe_ix ix_list (pv 0) pe_int (fun _ _ => rfl)) pe_int (nomark _))
        (pss_cons (ps_set (i := 2) scTak.nd rfl (Or.inl rfl) (pe_op op_mod (pe_callTy call_int1 (by rfl) T.int (by decide +kernel) (pa_cons (pe_ix ix_list (pv 0) pe_int (fun _ _ => rfl)) pa_nil)) (pv 1)))
        (pss_cons (ps_asg (pe_op op_fdiv (pe_ix ix_list (pv 0) pe_int (fun _ _ => rfl)) (pv 1)) (pg_sub (pv 0) pe_int set_list))
        (pss_one (ps_ret (pv 2))))) pss_nil)
      (pss_cons (ps_set (i := 3) scTak.nd rfl (Or.inl rfl) (pe_op op_mod (pe_callTy call_int1 (by rfl) T.int (by decide +kernel) (pa_cons (pe_op op_add (pe_op op_mul (pe_ix ix_list (pv 0) pe_int (fun _ _ => rfl)) pe_int) pe_int) pa_nil)) pe_int))
      (pss_cons (ps_asg (pe_op op_add (pe_op op_mod (pe_callTy call_int1 (by rfl) T.int (by decide +kernel) (pa_cons (pe_op op_add (pe_op op_mul (pv 3) pe_int) pe_int) pa_nil)) pe_int) pe_int) (pg_sub (pv 0) pe_int set_list))
      (pss_one (ps_ret (pe_op op_mod (pe_callTy call_int1 (by rfl) T.int (by decide +kernel) (pa_cons (pe_op op_fdiv (pe_op op_add (pe_op op_mul (pv 3) pe_int) (pe_ix ix_list (pv 0) pe_int (fun _ _ => rfl))) pe_int) pa_nil)) (pv 1)))))), ?_⟩
    refine ⟨_, rfl, b, _, _, _, rfl, rfl, SqL.of hb, atI_nat (j := 0) rfl, _, _, rfl, rfl, _, rfl, ?_⟩
    refine ite2 (fun _ => ?_) (fun _ => ?_)
    · refine ⟨_, rfl, b, _, _, _, rfl, rfl, SqL.of hb, atI_nat (j := 0) rfl, .inl ⟨_, rfl, _, rfl, _, _, rfl, rfl, hn, ?_⟩⟩
      refine ⟨_, rfl, b, _, _, _, rfl, rfl, SqL.of hb, atI_nat (j := 0) rfl, _, rfl, _, _, rfl, rfl, ⟨hn, by omega⟩, ?_⟩
      refine ⟨_, rfl, b, _, _, 0, rfl, rfl, hb, rfl, ?_⟩
      refine ⟨_, rfl, ?_⟩
      exact kont _ (Int.emod_nonneg _ (by omega)) (Int.emod_lt_of_pos _ hn) (g / n) z (Int.ediv_nonneg hg (by omega)) hz hz2
    · refine ⟨_, rfl, b, _, _, _, rfl, rfl, SqL.of hb, atI_nat (j := 1) rfl, _, _, rfl, rfl, .inr ⟨(by show -(2 ^ 64) < (39373 : Int); decide), (by show (39373 : Int) < 2 ^ 64; decide)⟩, _, _, rfl, rfl, .inl ⟨_, rfl, _, _, rfl, rfl, (by show (0 : Int) < 2147483647; decide), ?_⟩⟩
      refine ⟨_, rfl, _, _, rfl, rfl, .inr ⟨(by show -(2 ^ 64) < (40692 : Int); decide), (by show (40692 : Int) < 2 ^ 64; decide)⟩, _, _, rfl, rfl, .inl ⟨_, rfl, _, _, rfl, rfl, (by show (0 : Int) < 2147483399; decide), _, _, rfl, rfl, ?_⟩⟩
      refine ⟨_, rfl, b, _, _, 1, rfl, rfl, hb, rfl, ?_⟩
      refine ⟨_, rfl, _, _, rfl, rfl, .inr ⟨(by show -(2 ^ 64) < (2147483629 : Int); decide), (by show (2147483629 : Int) < 2 ^ 64; decide)⟩, _, rfl, b, _, _, _, rfl, rfl, SqL.of upd_same, atI_nat (j := 1) rfl, _, _, rfl, rfl, _, _, rfl, rfl, ⟨by decide, by decide⟩, .inl ⟨_, rfl, _, rfl, _, _, rfl, rfl, hn, ?_⟩⟩
      exact kont _ (Int.emod_nonneg _ (by omega)) (Int.emod_lt_of_pos _ hn) g _ hg (by omega) (by omega)
/-! ### _law_pick -/
abbrev sPck : Stmt := top 45
theorem scPck : FnScope ["box", "some"] ["box", "some"] (defScope sPck) := ⟨rfl, rfl, rfl, by decide +kernel, rfl, by decide +kernel, by decide +kernel⟩
def spPck : Sp := fun vs H Q _ => ∃ (b l : Addr) (xs : List V), vs = [.ref b, .ref l] ∧ Box H b ∧ H l = some (.lst xs) ∧ l ≠ b ∧ 0 < xs.length ∧ xs.length < 1000 ∧ ∀ (j : Nat) (v : V), xs[j]? = some v → Drw H b (fun H' => Q v H')
theorem ok_pck {f fT : Addr} {fd fdT : FuncData} (F : Fun K "_law_pick" "_law_pick" sPck f fd) (T : Tx K mg) (D : Df K mg "_law_take" sTak ["box", "many"] fT fdT) : FnOk Pg w K mg base CX0 2 f fd ["box", "some"] spPck := by
  have GD : FnOk Pg w K mg base CX0 1 fT fdT ["box", "many"] spTak := ok_tak D.F T
  refine F.ok scPck (fun vs H Q E h => ?_) (fun cdv A outer s H vs Q E hr h => ?_)
  · obtain ⟨_, _, _, rfl, _⟩ := h
    rfl
  · obtain ⟨b, l, xs, rfl, hb, hl, ne, h0, h1, kont⟩ := h
    refine ⟨_, pss_one (ps_ret (pe_ix ix_list (pv 1) (pe_call GD hr (by rfl) D.g D.F.kp D.b .nil pass0 (pa_cons (pv 0) (pa_cons (pe_callB call_len_seq (by rfl) T.len (by decide +kernel) (pa_cons (pv 1) pa_nil)) pa_nil))) (fun _ _ => rfl))), ?_⟩
    refine ⟨_, rfl, _, rfl, _, rfl, l, _, rfl, .inl (SqL.of hl), b, _, rfl, hb, by omega, by omega, fun r r0 r1 g z a1 a2 a3 => ?_⟩
    obtain ⟨j, rfl⟩ : ∃ j : Nat, r = (j : Int) := ⟨r.toNat, by omega⟩
    have hj : xs[j]? = some xs[j] := List.getElem?_eq_getElem (by omega)
    have hl' : upd H b (.lst [.int g, .int z]) l = some (.lst xs) := by
      rw [upd_ne ne]
      exact hl
    exact ⟨l, _, _, _, rfl, rfl, SqL.of hl', atI_nat hj, kont j _ hj g z a1 a2 a3⟩
end
end K6

set_option Elab.async false
set_option linter.all false
set_option maxRecDepth 100000
set_option maxHeartbeats 4000000
namespace K6
open PySem PySem.Spec PyProof.Rows L2 So
theorem kd_spec : ∀ {L : List Str} {z : Str}, z ∈ L → L[kd L z]? = some z ∧ ∀ j, j < kd L z → ∀ u, L[j]? = some u → ¬ u = z
  | a :: r, z, h => by
    unfold kd
    by_cases e : a = z
    · rw [if_pos e]
      exact ⟨by rw [e]; rfl, fun j hj => absurd hj (Nat.not_lt_zero _)⟩
    · rw [if_neg e]
      have hm : z ∈ r := by
        rcases List.mem_cons.mp h with q | q
        · exact absurd q.symm e
        · exact q
      obtain ⟨h1, h2⟩ := kd_spec hm
      refine ⟨h1, fun j hj u hu => ?_⟩
      cases j with
      | zero =>
        cases hu
        exact e
      | succ j => exact h2 j (by omega) u hu
theorem kd_not {L : List Str} {z : Str} (h : z ∉ L) : kd L z = L.length := kd_none fun j _ e => h (List.mem_of_getElem? e)
theorem sV_flat (L : List Str) : (sV L).all flatV = true := by
  unfold sV
  rw [List.all_map]
  exact List.all_eq_true.mpr fun _ _ => rfl
theorem inV_str (L : List Str) (z : Str) : inV (.str z) (sV L) = decide (z ∈ L) := by
  unfold inV sV
  rw [List.any_map, Bool.eq_iff_iff, List.any_eq_true, decide_eq_true_iff]
  constructor
  · rintro ⟨x, hx, e⟩
    have e' : (x == z) = true := e
    rw [← beq_iff_eq.mp e']
    exact hx
  · intro h
    exact ⟨z, h, (beq_iff_eq.mpr rfl : (z == z) = true)⟩
section
variable {Pg : Program} {w : World} {K : PySem.W.Frag} {mg : Str → Option Value} {base : Heap} {P : Addr}
/-! ### _law_kind -/
abbrev sKin : Stmt := top 48
theorem scKin : FnScope ["names", "name"] ["names", "name"] (defScope sKin) := ⟨rfl, rfl, rfl, by decide +kernel, rfl, by decide +kernel, by decide +kernel⟩
theorem ok_kin {f : Addr} {fd : FuncData} (F : Fun K "_law_kind" "_law_kind" sKin f fd) (T : Ty K mg) : FnOk Pg w K mg base CX0 1 f fd ["names", "name"] (spKnd K P) := by
  refine F.ok scKin (fun vs H Q E h => ?_) (fun cdv A' outer s H vs Q E hr h => ?_)
  · obtain ⟨_, _, ⟨_, _, _, rfl, _⟩, _⟩ := h
    rfl
  · obtain ⟨t, _, ⟨a, L, z, rfl, ha, hl, rfl⟩, k⟩ := h
    refine ⟨_, pss_one (ps_ret (pe_ifExp (pt_cmpR op_in_seq (pv 1) (pv 0) rfl) (pe_bm PySem.F.plainAttrs_list PySem.F.slot_list_index PySem.F.type_list_index mt_index (pe_callTy call_list_of (by rfl) T.T.list (by decide +kernel) (pa_cons (pv 0) pa_nil)) (pa_cons (pv 1) pa_nil))
      (pe_callB call_len_seq (by rfl) T.T.len (by decide +kernel) (pa_cons (pv 0) pa_nil)))), ?_⟩
    have lL : (sV L).length = L.length := by unfold sV; rw [List.length_map]
    refine ⟨_, rfl, _, rfl, a, sV L, rfl, .inr ha, rfl, sV_flat L, _, rfl, ?_⟩
    refine ite2 (fun q => ?_) (fun q => ?_)
    · have hm : z ∈ L := by
        have q' : inV (.str z) (sV L) = true := q
        rw [inV_str] at q'
        exact of_decide_eq_true q'
      obtain ⟨h1, h2⟩ := kd_spec hm
      have h1' : (sV L)[kd L z]? = some (.str z) := by
        unfold sV
        rw [List.getElem?_map, h1]
        rfl
      refine ⟨_, rfl, a, sV L, rfl, .inr ha, fun l hl' => ?_⟩
      refine ⟨.inl ⟨rfl, _, SqL.of upd_same⟩, _, rfl, l, sV L, _, kd L z, _, rfl, rfl, SqL.of upd_same, rfl, sV_flat L, h1', (beq_iff_eq.mpr rfl : (z == z) = true), fun m y hm' hy => ?_, k _ _ (Sm.new t hl') rfl⟩
      obtain ⟨u, hu, rfl⟩ := sV_at hy
      have ne := h2 m hm' u hu
      show (u == z) = false
      exact beq_eq_false_iff_ne.mpr ne
    · have hm : z ∉ L := fun e => q (by
        show inV (.str z) (sV L) = true
        rw [inV_str]
        exact decide_eq_true e)
      refine ⟨_, rfl, a, sV L, rfl, .inr ha, k _ _ (Sm.refl t) ?_⟩
      rw [kd_not hm, lL]
/-! ### text_beside -/
abbrev sTbs : Stmt := top 39
theorem scTbs : FnScope ["texts", "text"] ["texts"] (defScope sTbs) := ⟨rfl, rfl, rfl, by decide +kernel, rfl, by decide +kernel, by decide +kernel⟩
def spTbs (K : PySem.W.Frag) (P : Addr) : Sp := Pu P fun vs H R => ∃ (a : Addr) (L : List Str), vs = [.ref a] ∧ SqT K H a (sV L) ∧ ("" : Str) ∉ L ∧ R = fun v _ => v = .str ""
theorem ok_tbs {f : Addr} {fd : FuncData} (F : Fun K "text_beside" "text_beside" sTbs f fd) : FnOk Pg w K mg base CX0 1 f fd ["texts"] (spTbs K P) := by
  refine F.ok scTbs (fun vs H Q E h => ?_) (fun cdv A' outer s H vs Q E hr h => ?_)
  · obtain ⟨_, _, ⟨_, _, rfl, _⟩, _⟩ := h
    rfl
  · obtain ⟨t, _, ⟨a, L, rfl, ha, hno, rfl⟩, k⟩ := h
    refine ⟨_, pss_cons (ps_set (i := 1) scTbs.nd rfl (Or.inl rfl) pe_str)
      (pss_cons (ps_while PassesOwn.never (pt_cmpR op_in_seq (pv 1) (pv 0) rfl) pss_never)
      (pss_one (ps_ret (pv 1)))), ?_⟩
    refine ⟨fun _ σ H' => σ = [some (.ref a), some (.str "")] ∧ H' = H, ⟨0, rfl, rfl⟩, ?_⟩
    rintro m σ H' ⟨rfl, rfl⟩
    refine ⟨_, rfl, _, rfl, a, sV L, rfl, .inr ha, rfl, sV_flat _, false, ?_, iteF ⟨_, rfl, k _ _ (Sm.refl t) rfl⟩⟩
    show V.bl (inV (.str "") (sV L)) = V.bl false
    rw [inV_str, decide_eq_false hno]
/-! ### other_text -/
abbrev sOtx : Stmt := top 41
theorem scOtx : FnScope ["machine"] ["machine"] (defScope sOtx) := ⟨rfl, rfl, rfl, by decide +kernel, rfl, by decide +kernel, by decide +kernel⟩
def spOtx (K : PySem.W.Frag) (P : Addr) : Sp := Pu P fun vs H R => ∃ (v : V) (M : Mc), vs = [v] ∧ McS (Sq K) H v M ∧ M.ok ∧ ("" : Str) ∉ M.X ∧ R = fun v _ => v = .str ""
theorem ok_otx {f fC fB : Addr} {fd fdC fdB : FuncData} (F : Fun K "other_text" "other_text" sOtx f fd) (B : Df K mg "text_beside" sTbs ["texts"] fB fdB) (C : Df K mg "check_machine" sChk ["value"] fC fdC) (GC : FnOk Pg w K mg base CX0 6 fC fdC ["value"] (spChk K P)) : FnOk Pg w K mg base CX0 7 f fd ["machine"] (spOtx K P) := by
  have GB : FnOk Pg w K mg base CX0 1 fB fdB ["texts"] (spTbs K P) := ok_tbs B.F
  refine F.ok scOtx (fun vs H Q E h => ?_) (fun cdv A' outer s H vs Q E hr h => ?_)
  · obtain ⟨_, _, ⟨_, _, rfl, _⟩, _⟩ := h
    rfl
  · obtain ⟨t, _, ⟨v, M, rfl, hM, ok, hno, rfl⟩, k⟩ := h
    refine ⟨_, pss_one (ps_ret (pe_call GB (hr.mono (by decide)) (by rfl) B.g B.F.kp B.b .nil pass0 (pa_cons (pe_ix ix_tup (pe_call GC hr (by rfl) C.g C.F.kp C.b .nil pass0 (pa_cons (pv 0) pa_nil)) pe_int (fun _ _ => rfl)) pa_nil))), ?_⟩
    refine ⟨_, rfl, t, _, ⟨v, M, rfl, hM, ok, rfl⟩, fun v1 H1 s1 hT => ?_⟩
    obtain ⟨a1, vL, vX, vT, vI, rfl, ha1, _, ⟨bX, rfl, hbX⟩, _, _⟩ := hT
    exact ⟨a1, _, _, _, rfl, rfl, ha1, atI_nat (j := 1) rfl, s1.2, _, ⟨bX, M.X, rfl, hbX, hno, rfl⟩, fun v2 H2 s2 e => k _ _ (s1.trans s2) e⟩
end
end K6

set_option Elab.async false
set_option linter.all false
set_option maxRecDepth 100000
set_option maxHeartbeats 4000000
namespace K6
open PySem PySem.Spec PyProof.Rows L2 So
def frees (L : List Str) (cs : List Nat) : List Nat := cs.filter fun c => decide ((⟨#[c]⟩ : Str) ∉ L)
def chV (cs : List Nat) : List V := cs.map fun c => V.str ⟨#[c]⟩
theorem frees_app (L : List Str) (a b : List Nat) : frees L (a ++ b) = frees L a ++ frees L b := List.filter_append ..
theorem frees_yes {L : List Str} {c : Nat} (h : (⟨#[c]⟩ : Str) ∉ L) : frees L [c] = [c] := by
  unfold frees
  simp [h]
theorem frees_no {L : List Str} {c : Nat} (h : ¬ (⟨#[c]⟩ : Str) ∉ L) : frees L [c] = [] := by
  unfold frees
  have h' := Classical.not_not.mp h
  simp [h']
section
variable {Pg : Program} {w : World} {K : PySem.W.Frag} {mg : Str → Option Value} {base : Heap} {P : Addr}
abbrev sLbs : Stmt := top 38
theorem scLbs : FnScope ["labels", "letter"] ["labels"] (defScope sLbs) := ⟨rfl, rfl, rfl, by decide +kernel, rfl, by decide +kernel, by decide +kernel⟩
def spLbs (K : PySem.W.Frag) (P : Addr) : Sp := Pu P fun vs H R => ∃ (a : Addr) (L : List Str) (c : Nat), vs = [.ref a] ∧ SqT K H a (sV L) ∧ (frees L lets.cps.toList)[0]? = some c ∧ R = fun v _ => v = .str ⟨#[c]⟩
theorem ok_lbs {f : Addr} {fd : FuncData} (F : Fun K "label_beside" "label_beside" sLbs f fd) (T : Ty K mg) : FnOk Pg w K mg base CX0 1 f fd ["labels"] (spLbs K P) := by
  obtain ⟨_, tl⟩ := T.T.letters
  refine F.ok scLbs (fun vs H Q E h => ?_) (fun cdv A' outer s H vs Q E hr h => ?_)
  · obtain ⟨_, _, ⟨_, _, _, rfl, _⟩, _⟩ := h
    rfl
  · obtain ⟨t, _, ⟨a, L, c, rfl, ha, hc, rfl⟩, k⟩ := h
    refine ⟨_, pss_one (ps_ret (pe_ix ix_list (pe_lc (own := [("letter", 1)]) (g := gName 1) (tt := tTest (tOp (rIn K true) (tVar 1) (tVar 0))) rfl scLbs.nd (pi_str (pe_glob (v := .str lets) (by rfl) tl ⟨_, rfl⟩)) (blkOk_by (N := ["labels", "letter"]) (sc := defScope sLbs) (by decide +kernel)) (fun _ _ _ _ _ => pg_name (i := 1) scLbs.nd rfl (Or.inl rfl))
        (fun _ _ _ _ _ => pts_one (show PT _ _ (tTest (tOp (rIn K true) (tVar 1) (tVar 0))) from pt_cmpR op_notIn_seq (pv 1) (pv 0) rfl)) (fun _ _ _ _ _ => pv 1)) pe_int (fun _ _ => rfl))), ?_⟩
    have small : lets.cps.toList.length ≤ 100 := by decide +kernel
    refine ⟨lets, rfl, fun D hD => ?_⟩
    refine lc_it walk_str (fun i H' => Sm P H H' ∧ H' D = some (.lst (chV (frees L (lets.cps.toList.take i))))) ⟨Sm.new t hD, upd_same⟩ (fun _ _ _ _ => trivial) ?_ ?_
    · rintro i x H2 H3 hi ⟨s2, q1⟩ ⟨rfl, c1, hc1, rfl⟩
      have hc2 : lets.cps.toList[i]? = some c1 := by
        rw [Array.getElem?_toList]
        exact hc1
      refine ⟨rfl, _, rfl, _, rfl, a, sV L, rfl, .inr (s2.tup t ha), rfl, sV_flat _, _, rfl, ?_⟩
      have e : (if true = true then !inV (.str ⟨#[c1]⟩) (sV L) else inV (.str ⟨#[c1]⟩) (sV L)) = decide ((⟨#[c1]⟩ : Str) ∉ L) := by
        rw [if_pos rfl, inV_str]
        by_cases q : (⟨#[c1]⟩ : Str) ∈ L
        · rw [decide_eq_true q, decide_eq_false (fun z => z q)]
          rfl
        · rw [decide_eq_false q, decide_eq_true q]
          rfl
      rw [e]
      refine ite2 (fun q => ?_) (fun q => ?_)
      · refine ⟨_, rfl, _, q1, ?_, s2.mut hD (nPt t hD), ?_⟩
        · unfold chV frees
          rw [List.length_map]
          refine Nat.lt_of_le_of_lt (List.length_filter_le _ _) ?_
          rw [List.length_take]
          exact Nat.lt_of_le_of_lt (by omega : _ ≤ 100) (by decide)
        · rw [upd_same, take_snoc hc2, frees_app, frees_yes (of_decide_eq_true q)]
          unfold chV
          rw [List.map_append]
          rfl
      · refine ⟨s2, ?_⟩
        rw [q1, take_snoc hc2, frees_app, frees_no (fun z => q (decide_eq_true z)), List.append_nil]
    · rintro H2 ⟨s2, q1⟩
      have e : lets.cps.toList.take lets.cps.size = lets.cps.toList := by
        rw [← Array.length_toList, List.take_length]
      rw [e] at q1
      have h0 : (chV (frees L lets.cps.toList))[0]? = some (.str ⟨#[c]⟩) := by
        unfold chV
        rw [List.getElem?_map, hc]
        rfl
      exact ⟨D, _, _, _, rfl, rfl, SqL.of q1, atI_nat (j := 0) h0, k _ _ s2 rfl⟩
abbrev sOlb : Stmt := top 40
theorem scOlb : FnScope ["machine"] ["machine"] (defScope sOlb) := ⟨rfl, rfl, rfl, by decide +kernel, rfl, by decide +kernel, by decide +kernel⟩
def spOlb (K : PySem.W.Frag) (P : Addr) : Sp := Pu P fun vs H R => ∃ (v : V) (M : Mc) (c : Nat), vs = [v] ∧ McS (Sq K) H v M ∧ M.ok ∧ (frees M.L lets.cps.toList)[0]? = some c ∧ R = fun v _ => v = .str ⟨#[c]⟩
theorem ok_olb {f fC fB : Addr} {fd fdC fdB : FuncData} (F : Fun K "other_label" "other_label" sOlb f fd) (T : Ty K mg) (B : Df K mg "label_beside" sLbs ["labels"] fB fdB) (C : Df K mg "check_machine" sChk ["value"] fC fdC) (GC : FnOk Pg w K mg base CX0 6 fC fdC ["value"] (spChk K P)) : FnOk Pg w K mg base CX0 7 f fd ["machine"] (spOlb K P) := by
  have GB : FnOk Pg w K mg base CX0 1 fB fdB ["labels"] (spLbs K P) := ok_lbs B.F T
  refine F.ok scOlb (fun vs H Q E h => ?_) (fun cdv A' outer s H vs Q E hr h => ?_)
  · obtain ⟨_, _, ⟨_, _, _, rfl, _⟩, _⟩ := h
    rfl
  · obtain ⟨t, _, ⟨v, M, c, rfl, hM, ok, hc, rfl⟩, k⟩ := h
    refine ⟨_, pss_one (ps_ret (pe_call GB (hr.mono (by decide)) (by rfl) B.g B.F.kp B.b .nil pass0 (pa_cons (pe_ix ix_tup (pe_call GC hr (by rfl) C.g C.F.kp C.b .nil pass0 (pa_cons (pv 0) pa_nil)) pe_int (fun _ _ => rfl)) pa_nil))), ?_⟩
    refine ⟨_, rfl, t, _, ⟨v, M, rfl, hM, ok, rfl⟩, fun v1 H1 s1 hT => ?_⟩
    obtain ⟨a1, vL, vX, vT, vI, rfl, ha1, ⟨bL, rfl, hbL⟩, _, _, _⟩ := hT
    exact ⟨a1, _, _, _, rfl, rfl, ha1, atI_nat (j := 0) rfl, s1.2, _, ⟨bL, M.L, c, rfl, hbL, hc, rfl⟩, fun v2 H2 s2 e => k _ _ (s1.trans s2) e⟩
end
/-! ### how high -/
mutual
def hiN : Nd → Nat
  | .tx _ => 0
  | .el _ ds => hiS ds + 1
def hiS : List Nd → Nat
  | [] => 0
  | d :: r => max (hiN d) (hiS r)
end
section
variable {Pg : Program} {w : World} {K : PySem.W.Frag} {mg : Str → Option Value} {base : Heap} {P : Addr}
/-! ### _law_row -/
abbrev sLrw : Stmt := top 49
abbrev nLrw : List Str := ["machine", "part", "state", "document", "node", "child"]
theorem scLrw : FnScope nLrw ["machine", "part", "state", "document"] (defScope sLrw) := ⟨rfl, rfl, rfl, by decide +kernel, rfl, by decide +kernel, by decide +kernel⟩
def spLrw (K : PySem.W.Frag) (P : Addr) (h : Nat) : Sp := Pu P fun vs H R => ∃ (v : V) (M : Mc) (top : Bool) (s : Nat) (d : Addr) (xs : List V) (ds : List Nd), vs = [v, .int (if top then 2 else 3), .int (s : Nat), .ref d] ∧ McS (SqT K) H v M ∧ M.ok ∧ s < (if top then M.tp.n else M.inn.m) ∧
  SqT K H d xs ∧ DpAll K H xs (ndsD ds) ∧ hiS ds ≤ h ∧ R = fun v _ => v = .int (M.row top s ds : Nat)
mutual
theorem node_lt {M : Mc} (o : M.ok) : ∀ (d : Nd) {top : Bool} {s : Nat}, s < (if top then M.tp.n else M.inn.m) → M.node top s d < (if top then M.tp.n else M.inn.m)
  | .tx z, top, s, h => by
    simp only [Mc.node]
    exact txt_lt o h
  | .el l ds, top, s, h => by
    simp only [Mc.node]
    exact chi_lt o (row_lt o ds (top := false) (start_lt o l)) h
theorem row_lt {M : Mc} (o : M.ok) : ∀ (ds : List Nd) {top : Bool} {s : Nat}, s < (if top then M.tp.n else M.inn.m) → M.row top s ds < (if top then M.tp.n else M.inn.m)
  | [], top, s, h => by
    simp only [Mc.row]
    exact h
  | d :: r, top, s, h => by
    simp only [Mc.row]
    exact row_lt o r (node_lt o d h)
end
end
end K6

set_option Elab.async false
set_option linter.all false
set_option maxRecDepth 100000
set_option maxHeartbeats 4000000
namespace K6
open PySem PySem.Spec PyProof.Rows L2 So
theorem nds_at {K : PySem.W.Frag} {H : Hp} : ∀ {xs : List V} {ds : List Nd} {i : Nat} {x : V}, DpAll K H xs (ndsD ds) → xs[i]? = some x → ∃ d, ds[i]? = some d ∧ Dp K H x (ndD d)
  | xs, [], i, x, h, e => by
    rw [ndsD] at h
    cases all_nil' h
    simp at e
  | xs, d :: ds, i, x, h, e => by
    rw [ndsD] at h
    obtain ⟨v, vs, rfl, h1, h2⟩ := all_cons' h
    cases i with
    | zero =>
      cases e
      exact ⟨d, rfl, h1⟩
    | succ i => exact nds_at (ds := ds) h2 (by simpa using e)
theorem nds_len {K : PySem.W.Frag} {H : Hp} {xs : List V} {ds : List Nd} (h : DpAll K H xs (ndsD ds)) : xs.length = ds.length := (all_length h).trans (ndsD_length ds)
theorem row_app (M : Mc) (top : Bool) : ∀ (s : Nat) (a b : List Nd), M.row top s (a ++ b) = M.row top (M.row top s a) b
  | s, [], b => by simp only [Mc.row]; rfl
  | s, d :: a, b => by
    show M.row top s (d :: (a ++ b)) = _
    simp only [Mc.row]
    exact row_app M top _ a b
theorem row_snoc {M : Mc} {top : Bool} {s : Nat} {ds : List Nd} {i : Nat} {d : Nd} (h : ds[i]? = some d) : M.row top s (ds.take (i + 1)) = M.node top (M.row top s (ds.take i)) d := by
  rw [take_snoc h, row_app]
  simp only [Mc.row]
theorem hi_at {ds : List Nd} {i : Nat} {d : Nd} (h : ds[i]? = some d) : hiN d ≤ hiS ds := by
  induction ds generalizing i with
  | nil => simp at h
  | cons a r ih =>
    simp only [hiS]
    cases i with
    | zero =>
      cases h
      exact Nat.le_max_left _ _
    | succ i => exact Nat.le_trans (ih (i := i) (by simpa using h)) (Nat.le_max_right _ _)
theorem row_take_lt {M : Mc} (o : M.ok) {top : Bool} {s : Nat} (h : s < (if top then M.tp.n else M.inn.m)) (ds : List Nd) (i : Nat) : M.row top s (ds.take i) < (if top then M.tp.n else M.inn.m) := row_lt o _ h
section
variable {K : PySem.W.Frag} {H : Hp}
theorem mc_part {v : V} {M : Mc} (h : McS (SqT K) H v M) (top : Bool) : ∃ a xs z, v = .ref a ∧ SqT K H a xs ∧ xs[(if top then 2 else 3 : Nat)]? = some (V.ref z) ∧ PartS K H z M top := by
  obtain ⟨a, vL, vX, vT, vI, rfl, ha, _, _, ⟨zT, t1, t2, t3, rfl, hzT, ht1, ht2, ht3⟩, ⟨zI, i1, i2, i3, rfl, hzI, hi1, hi2, hi3⟩⟩ := h
  cases top with
  | true => exact ⟨a, _, zT, rfl, ha, rfl, _, t1, t2, hzT, rfl, rfl, ht1, ht2⟩
  | false => exact ⟨a, _, zI, rfl, ha, rfl, _, i2, i3, hzI, rfl, rfl, hi2, hi3⟩
/-- a cell of the texts' maps -/
theorem part_txt {a : Addr} {M : Mc} (o : M.ok) {top : Bool} (h : PartS K H a M top) (z : Str) {s : Nat} (hs : s < (if top then M.tp.n else M.inn.m)) : ∃ xs a2 ys b, SqT K H a xs ∧ xs[2]? = some (V.ref a2) ∧ SqT K H a2 ys ∧ ys[kd M.X z]? = some (V.ref b) ∧ ∃ us, SqT K H b us ∧ us[s]? = some (.int (M.txt top z s : Nat)) := by
  obtain ⟨xs, c2, c3, h1, e2, e3, R2, R3⟩ := h
  have o3 := o.2.2.1
  have o4 := o.2.2.2
  have hk : kd M.X z < (if top then M.tp.tt else M.inn.it).length := by
    have := kd_le M.X z
    have q1 := o3.2.2.2.2.1
    have q2 := o4.2.2.2.1
    cases top with
    | true =>
      show _ < M.tp.tt.length
      omega
    | false =>
      show _ < M.inn.it.length
      omega
  have m6 : okMaps (if top then M.tp.tt else M.inn.it) (if top then M.tp.n else M.inn.m) := by
    cases top with
    | true => exact o4.2.2.2.2.1
    | false => exact o3.2.2.2.2.2.1
  have hsl : s < ((if top then M.tp.tt else M.inn.it).getD (kd M.X z) []).length := by
    rw [getD_at hk, (m6 _ (List.getElem_mem hk)).1]
    exact hs
  obtain ⟨a2, ys2, b2, rfl, ha2, hy2, hb2⟩ := rows_at R2 hk
  exact ⟨xs, a2, ys2, b2, h1, e2, ha2, hy2, _, hb2, iV_get hsl⟩
/-- a cell of the children's maps -/
theorem part_chi {a : Addr} {M : Mc} (o : M.ok) {top : Bool} (h : PartS K H a M top) {c s : Nat} (hc : c < M.inn.m) (hs : s < (if top then M.tp.n else M.inn.m)) : ∃ xs a2 ys b, SqT K H a xs ∧ xs[3]? = some (V.ref a2) ∧ SqT K H a2 ys ∧ ys[c]? = some (V.ref b) ∧ ∃ us, SqT K H b us ∧ us[s]? = some (.int (M.chi top c s : Nat)) := by
  obtain ⟨xs, c2, c3, h1, e2, e3, R2, R3⟩ := h
  have o3 := o.2.2.1
  have o4 := o.2.2.2
  have hk : c < (if top then M.tp.tc else M.inn.ic).length := by
    have q1 := o3.2.2.2.2.2.2.1
    have q2 := o4.2.2.2.2.2.1
    cases top with
    | true =>
      show _ < M.tp.tc.length
      omega
    | false =>
      show _ < M.inn.ic.length
      omega
  have m6 : okMaps (if top then M.tp.tc else M.inn.ic) (if top then M.tp.n else M.inn.m) := by
    cases top with
    | true => exact o4.2.2.2.2.2.2.1
    | false => exact o3.2.2.2.2.2.2.2
  have hsl : s < ((if top then M.tp.tc else M.inn.ic).getD c []).length := by
    rw [getD_at hk, (m6 _ (List.getElem_mem hk)).1]
    exact hs
  obtain ⟨a2, ys2, b2, rfl, ha2, hy2, hb2⟩ := rows_at R3 hk
  exact ⟨xs, a2, ys2, b2, h1, e3, ha2, hy2, _, hb2, iV_get hsl⟩
/-- where an element's row starts -/
theorem mc_start {v : V} {M : Mc} (o : M.ok) (h : McS (SqT K) H v M) (l : Str) : ∃ a xs z ys b us, v = .ref a ∧ SqT K H a xs ∧ xs[3]? = some (V.ref z) ∧ SqT K H z ys ∧ ys[1]? = some (V.ref b) ∧ SqT K H b us ∧ us[kd M.L l]? = some (.int (M.start l : Nat)) := by
  obtain ⟨a, vL, vX, vT, vI, rfl, ha, _, _, _, ⟨zI, i1, i2, i3, rfl, hzI, ⟨b, rfl, hb⟩, hi2, hi3⟩⟩ := h
  have hst : kd M.L l < M.inn.st.length := by
    have := kd_le M.L l
    have q1 := o.2.2.1.2.2.1
    omega
  exact ⟨a, _, zI, _, b, _, rfl, ha, rfl, hzI, rfl, hb, iV_get hst⟩
theorem mc_names {v : V} {M : Mc} (h : McS (SqT K) H v M) : ∃ a xs bL bX, v = .ref a ∧ SqT K H a xs ∧ xs[0]? = some (V.ref bL) ∧ xs[1]? = some (V.ref bX) ∧ SqT K H bL (sV M.L) ∧ SqT K H bX (sV M.X) := by
  obtain ⟨a, vL, vX, vT, vI, rfl, ha, ⟨bL, rfl, hbL⟩, ⟨bX, rfl, hbX⟩, _, _⟩ := h
  exact ⟨a, _, bL, bX, rfl, ha, rfl, rfl, hbL, hbX⟩
end
theorem okL6 {M : Mc} (o : M.ok) : M.L.length ≤ 6 := by
  have := o.1
  unfold okLabs at this
  rw [Bool.and_eq_true, Bool.and_eq_true] at this
  exact of_decide_eq_true this.1.1
theorem okX4 {M : Mc} (o : M.ok) : M.X.length ≤ 4 := by
  have := o.2.1
  unfold okTxs at this
  rw [Bool.and_eq_true, Bool.and_eq_true] at this
  exact of_decide_eq_true this.1.1
section
variable {Pg : Program} {w : World} {K : PySem.W.Frag} {mg : Str → Option Value} {base : Heap} {P : Addr}
def spRow3 (K : PySem.W.Frag) (P : Addr) (h : Nat) : Sp := Pu P fun vs H R => ∃ (v : V) (M : Mc) (top : Bool) (s : Nat) (d : Addr) (xs : List V) (ds : List Nd), vs = [v, .int ((if top then 2 else 3 : Nat) : Nat), .int (s : Nat), .ref d] ∧ McS (SqT K) H v M ∧ M.ok ∧ s < (if top then M.tp.n else M.inn.m) ∧
  SqT K H d xs ∧ DpAll K H xs (ndsD ds) ∧ hiS ds < h ∧ R = fun v _ => v = .int (M.row top s ds : Nat)
theorem ok_lrw {f fK : Addr} {fd fdK : FuncData} (F : Fun K "_law_row" "_law_row" sLrw f fd) (T : Ty K mg) (R : Df K mg "_law_row" sLrw ["machine", "part", "state", "document"] f fd) (Kn : Df K mg "_law_kind" sKin ["names", "name"] fK fdK) :
    ∀ h, FnOk Pg w K mg base CX0 (h + 2) f fd ["machine", "part", "state", "document"] (spRow3 K P h)
  | 0 => by
    refine F.ok scLrw (fun vs H Q E h => ?_) (fun cdv A' outer s H vs Q E hr h => ?_)
    · obtain ⟨_, _, ⟨_, _, _, _, _, _, _, rfl, _⟩, _⟩ := h
      rfl
    · obtain ⟨_, _, ⟨_, _, _, _, _, _, _, _, _, _, _, _, _, z, _⟩, _⟩ := h
      exact absurd z (Nat.not_lt_zero _)
  | h + 1 => by
    have GK : FnOk Pg w K mg base CX0 1 fK fdK ["names", "name"] (spKnd K P) := ok_kin Kn.F T
    have G : FnOk Pg w K mg base CX0 (h + 2) f fd ["machine", "part", "state", "document"] (spRow3 K P h) := ok_lrw F T R Kn h
    refine F.ok scLrw (fun vs H Q E h => ?_) (fun cdv A' outer s H vs Q E hr h => ?_)
    · obtain ⟨_, _, ⟨_, _, _, _, _, _, _, rfl, _⟩, _⟩ := h
      rfl
    obtain ⟨t, _, ⟨v, M, top, s0, d, xs, ds, rfl, hM, ok, hs, hd, hds, hh, rfl⟩, k⟩ := h
    have r1 : Room 1 _ := hr.mono (by omega)
    refine ⟨_, (pss_cons (ps_for PassesOwn.never rfl (pi_tup (pv 3)) (pg_name (i := 4) scLrw.nd rfl (Or.inl rfl)) (pss_one (ps_if (pt_cmpR op_eq (pe_ix ix_tup (pv 4) pe_int (fun _ _ => rfl)) pe_str (nomark _)) (pss_one (ps_set (i := 2) scLrw.nd rfl (Or.inl rfl) (pe_ix ix_tup (pe_ix ix_tup (pe_ix ix_tup (pe_ix ix_tup (pv 0) (pv 1) (fun _ _ => rfl)) pe_int (fun _ _ => rfl)) (pe_call GK r1 (by rfl) Kn.g Kn.F.kp Kn.b .nil pass0 (pa_cons (pe_ix ix_tup (pv 0) pe_int (fun _ _ => rfl)) (pa_cons (pe_ix ix_tup (pv 4) pe_int (fun _ _ => rfl)) pa_nil))) (fun _ _ => rfl)) (pv 2) (fun _ _ => rfl)))) (pss_cons (ps_set (i := 5) scLrw.nd rfl (Or.inl rfl) (pe_call G hr (by rfl) R.g R.F.kp R.b .nil pass0 (pa_cons (pv 0) (pa_cons pe_int (pa_cons (pe_ix ix_tup (pe_ix ix_tup (pe_ix ix_tup (pv 0) pe_int (fun _ _ => rfl)) pe_int (fun _ _ => rfl)) (pe_call GK r1 (by rfl) Kn.g Kn.F.kp Kn.b .nil pass0 (pa_cons (pe_ix ix_tup (pv 0) pe_int (fun _ _ => rfl)) (pa_cons (pe_ix ix_tup (pv 4) pe_int (fun _ _ => rfl)) pa_nil))) (fun _ _ => rfl)) (pa_cons (pe_ix ix_tup (pv 4) pe_int (fun _ _ => rfl)) pa_nil))))))
      (pss_one (ps_set (i := 2) scLrw.nd rfl (Or.inl rfl) (pe_ix ix_tup (pe_ix ix_tup (pe_ix ix_tup (pe_ix ix_tup (pv 0) (pv 1) (fun _ _ => rfl)) pe_int (fun _ _ => rfl)) (pv 5) (fun _ _ => rfl)) (pv 2) (fun _ _ => rfl))))))))
      (pss_one (ps_ret (pv 2)))), ?_⟩
    have lds := nds_len hds
    have fL := okL6 ok
    have fX := okX4 ok
    refine ⟨_, rfl, d, rfl, ⟨_, hd⟩, for_tup (xs := xs) (fun i σ H' => ∃ (v4 v5 : Option V), σ = [some v, some (.int ((if top then 2 else 3 : Nat) : Nat)), some (.int (M.row top s0 (ds.take i) : Nat)), some (.ref d), v4, v5] ∧ Sm P H H') ⟨none, none, rfl, Sm.refl t⟩ (fun i σ H' _ ⟨_, _, _, s⟩ => s.tup t hd) ?_ ?_⟩
    · rintro i x σ H' hx ⟨v4, v5, rfl, s1⟩
      obtain ⟨n, hn, hnx⟩ := nds_at hds hx
      have hM1 := hM.mono mo_tup t s1
      have hst := row_take_lt ok hs ds i
      obtain ⟨a0, xs0, bL, bX, rfl, ha0, x0, x1, hbL, hbX⟩ := mc_names hM1
      obtain ⟨a0', xs0', zp, e0, ha0', x2, hpart⟩ := mc_part hM1 top
      cases e0
      cases n with
      | tx z =>
        obtain ⟨q, rfl, hq⟩ := nd_tx (nd_tp (Tp.sm t s1) _ _ hnx)
        obtain ⟨xs1, a2, ys, b, h1, e2, h2, e3, us, h3, e4⟩ := part_txt ok hpart z hst
        refine ⟨_, rfl, q, _, _, _, rfl, rfl, hq, atI_nat (j := 0) rfl, rfl, _, rfl, iteT ?_⟩
        refine ⟨_, rfl, _, rfl, a0, _, _, _, rfl, rfl, ha0', atI_nat x2, zp, _, _, _, rfl, rfl, h1, atI_nat (j := 2) e2, _, rfl, a0, _, _, _, rfl, rfl, ha0, atI_nat (j := 1) x1, _, rfl, q, _, _, _, rfl, rfl, hq, atI_nat (j := 1) rfl, s1.2, _, ⟨bX, M.X, z, rfl, hbX, by omega, rfl⟩, fun kv H4 s4 ek => ?_⟩
        subst ek
        refine ⟨a2, _, _, _, rfl, rfl, s4.tup s1.2 h2, atI_nat e3, _, rfl, b, _, _, _, rfl, rfl, s4.tup s1.2 h3, atI_nat e4, ?_⟩
        refine ⟨some (.ref q), v5, ?_, s1.trans s4⟩
        rw [row_snoc hn]
        simp only [Mc.node]
        rfl
      | el l es =>
        obtain ⟨q, b0, ys0, rfl, hq, hb0, hes⟩ := nd_el (nd_tp (Tp.sm t s1) _ _ hnx)
        have hhi : hiS es < h := by
          have := hi_at hn
          simp only [hiN] at this
          omega
        obtain ⟨a9, xs9, z9, ys9, b9, us9, e9, g1, g2, g3, g4, g5, g6⟩ := mc_start ok hM1 l
        cases e9
        refine ⟨_, rfl, q, _, _, _, rfl, rfl, hq, atI_nat (j := 0) rfl, rfl, _, rfl, ?_⟩
        rw [dstr (by decide +kernel)]
        refine iteF ?_
        refine ⟨_, rfl, _, rfl, a0, _, _, _, rfl, rfl, g1, atI_nat (j := 3) g2, z9, _, _, _, rfl, rfl, g3, atI_nat (j := 1) g4, _, rfl, a0, _, _, _, rfl, rfl, ha0, atI_nat (j := 0) x0, _, rfl, q, _, _, _, rfl, rfl, hq, atI_nat (j := 1) rfl, s1.2, _, ⟨bL, M.L, l, rfl, hbL, by omega, rfl⟩, fun kv H4 s4 ek => ?_⟩
        subst ek
        have s14 := s1.trans s4
        refine ⟨b9, _, _, _, rfl, rfl, s4.tup s1.2 g5, atI_nat g6, _, rfl, q, _, _, _, rfl, rfl, s4.tup s1.2 hq, atI_nat (j := 2) rfl, ?_⟩
        refine ⟨s14.2, _, ⟨_, M, false, M.start l, b0, ys0, es, rfl, hM1.mono mo_tup s1.2 s4, ok, start_lt ok l, s4.tup s1.2 hb0, nds_tp (Tp.sm s1.2 s4) _ _ hes, hhi, rfl⟩, fun cv H5 s5 ec => ?_⟩
        subst ec
        have s45 := s4.trans s5
        have hc : M.row false (M.start l) es < M.inn.m := row_lt ok es (top := false) (start_lt ok l)
        obtain ⟨xs1, a2, ys, b, h1, e2, h2, e3, us, h3, e4⟩ := part_chi ok hpart hc hst
        refine ⟨_, rfl, _, rfl, a0, _, _, _, rfl, rfl, s45.tup s1.2 ha0', atI_nat x2, zp, _, _, _, rfl, rfl, s45.tup s1.2 h1, atI_nat (j := 3) e2, _, rfl, a2, _, _, _, rfl, rfl, s45.tup s1.2 h2, atI_nat e3, _, rfl, b, _, _, _, rfl, rfl, s45.tup s1.2 h3, atI_nat e4, ?_⟩
        refine ⟨some (.ref q), some (.int (M.row false (M.start l) es : Nat)), ?_, s1.trans s45⟩
        rw [row_snoc hn]
        simp only [Mc.node]
        rfl
    · rintro σ H' ⟨v4, v5, rfl, s1⟩
      rw [lds, List.take_length]
      exact ⟨_, rfl, k _ _ s1 rfl⟩
end
end K6

set_option Elab.async false
set_option linter.all false
set_option maxRecDepth 100000
set_option maxHeartbeats 4000000
namespace K6
open PySem PySem.Spec PyProof.Rows L2 So
section
variable {Pg : Program} {w : World} {K : PySem.W.Frag} {mg : Str → Option Value} {base : Heap} {P : Addr}
/-! ### _law_answer -/
abbrev sLan : Stmt := top 50
theorem scLan : FnScope ["machine", "document"] ["machine", "document"] (defScope sLan) := ⟨rfl, rfl, rfl, by decide +kernel, rfl, by decide +kernel, by decide +kernel⟩
def spLan (K : PySem.W.Frag) (P : Addr) (h : Nat) : Sp := Pu P fun vs H R => ∃ (v : V) (M : Mc) (d : Addr) (xs : List V) (ds : List Nd), vs = [v, .ref d] ∧ McS (SqT K) H v M ∧ M.ok ∧ SqT K H d xs ∧ DpAll K H xs (ndsD ds) ∧ hiS ds < h ∧ R = fun v H' => ItS (SqT K) H' v (bV (M.ans ds))
theorem mc_tops {H : Hp} {v : V} {M : Mc} (h : McS (SqT K) H v M) : ∃ a xs z t3 ys, v = .ref a ∧ SqT K H a xs ∧ xs[2]? = some (V.ref z) ∧ SqT K H z ys ∧ ys[1]? = some (.int (M.tp.s : Nat)) ∧ ys[4]? = some t3 ∧ RowsS (SqT K) H t3 (aV M.tp.an) := by
  obtain ⟨a, vL, vX, vT, vI, rfl, ha, _, _, ⟨zT, t1, t2, t3, rfl, hzT, ht1, ht2, ht3⟩, _⟩ := h
  exact ⟨a, _, zT, t3, _, rfl, ha, rfl, hzT, rfl, rfl, ht3⟩
theorem ok_lan {f fR fK : Addr} {fd fdR fdK : FuncData} {h : Nat} (F : Fun K "_law_answer" "_law_answer" sLan f fd) (R : Df K mg "_law_row" sLrw ["machine", "part", "state", "document"] fR fdR)
    (GR : FnOk Pg w K mg base CX0 (h + 2) fR fdR ["machine", "part", "state", "document"] (spRow3 K P h)) : FnOk Pg w K mg base CX0 (h + 3) f fd ["machine", "document"] (spLan K P h) := by
  refine F.ok scLan (fun vs H Q E h => ?_) (fun cdv A' outer s H vs Q E hr h => ?_)
  · obtain ⟨_, _, ⟨_, _, _, _, _, rfl, _⟩, _⟩ := h
    rfl
  · obtain ⟨t, _, ⟨v, M, d, xs, ds, rfl, hM, ok, hd, hds, hh, rfl⟩, k⟩ := h
    refine ⟨_, pss_one (ps_ret (pe_ix ix_tup (pe_ix ix_tup (pe_ix ix_tup (pv 0) pe_int (fun _ _ => rfl)) pe_int (fun _ _ => rfl)) (pe_call GR hr (by rfl) R.g R.F.kp R.b .nil pass0 (pa_cons (pv 0) (pa_cons pe_int (pa_cons (pe_ix ix_tup (pe_ix ix_tup (pv 0) pe_int (fun _ _ => rfl)) pe_int (fun _ _ => rfl)) (pa_cons (pv 1) pa_nil))))) (fun _ _ => rfl))), ?_⟩
    have o4 := ok.2.2.2
    have hs : M.tp.s < M.tp.n := o4.2.2.1
    have hlt : M.row true M.tp.s ds < M.tp.an.length := by
      rw [o4.2.2.2.2.2.2.2.1]
      exact row_lt ok ds (top := true) hs
    obtain ⟨a, xs1, z, t3, ys, rfl, ha, x2, hz, y1, y4, R3⟩ := mc_tops hM
    obtain ⟨a2, ys2, b2, rfl, ha2, hy2, hb2⟩ := arows_at R3 hlt
    refine ⟨_, rfl, a, _, _, _, rfl, rfl, ha, atI_nat (j := 2) x2, z, _, _, _, rfl, rfl, hz, atI_nat (j := 4) y4, _, rfl, _, rfl, a, _, _, _, rfl, rfl, ha, atI_nat (j := 2) x2, z, _, _, _, rfl, rfl, hz, atI_nat (j := 1) y1, _, rfl, t, _, ⟨_, M, true, M.tp.s, d, xs, ds, rfl, hM, ok, hs, hd, hds, hh, rfl⟩, fun rv H1 s1 er => ?_⟩
    subst er
    exact ⟨a2, _, _, _, rfl, rfl, s1.tup t ha2, atI_nat hy2, k _ _ s1 ⟨b2, rfl, s1.tup t hb2⟩⟩
/-! ### _law_signs -/
abbrev sLsg : Stmt := top 51
theorem scLsg : FnScope ["document", "found", "node"] ["document"] (defScope sLsg) := ⟨rfl, rfl, rfl, by decide +kernel, rfl, by decide +kernel, by decide +kernel⟩
def SgL (K : PySem.W.Frag) (H : Hp) (v : V) (gs : List Sg) : Prop := ∃ q ys, v = .ref q ∧ H q = some (.lst ys) ∧ Paired (SgV K H) ys gs
def spLsg (K : PySem.W.Frag) (P : Addr) (h : Nat) : Sp := Pu P fun vs H R => ∃ (d : Addr) (xs : List V) (ds : List Nd), vs = [.ref d] ∧ SqT K H d xs ∧ DpAll K H xs (ndsD ds) ∧ hiS ds < h ∧ (sgs ds).length ≤ 1000 ∧ R = fun v H' => SgL K H' v (sgs ds)
theorem sgs_snoc {ds : List Nd} {i : Nat} {d : Nd} (h : ds[i]? = some d) : sgs (ds.take (i + 1)) = sgs (ds.take i) ++ sgN d := by
  rw [take_snoc h, sgs_append]
  simp [sgs]
theorem sgs_take_le (ds : List Nd) (i : Nat) : (sgs (ds.take i)).length ≤ (sgs ds).length := by
  have e : sgs ds = sgs (ds.take i) ++ sgs (ds.drop i) := by rw [← sgs_append, List.take_append_drop]
  rw [e, List.length_append]
  omega
theorem ok_lsg {f : Addr} {fd : FuncData} (F : Fun K "_law_signs" "_law_signs" sLsg f fd) (R : Df K mg "_law_signs" sLsg ["document"] f fd) : ∀ h, FnOk Pg w K mg base CX0 (h + 2) f fd ["document"] (spLsg K P h)
  | 0 => by
    refine F.ok scLsg (fun vs H Q E h => ?_) (fun cdv A' outer s H vs Q E hr h => ?_)
    · obtain ⟨_, _, ⟨_, _, _, rfl, _⟩, _⟩ := h
      rfl
    · obtain ⟨_, _, ⟨_, _, _, _, _, _, z, _⟩, _⟩ := h
      exact absurd z (Nat.not_lt_zero _)
  | h + 1 => by
    have G : FnOk Pg w K mg base CX0 (h + 2) f fd ["document"] (spLsg K P h) := ok_lsg F R h
    refine F.ok scLsg (fun vs H Q E h => ?_) (fun cdv A' outer s H vs Q E hr h => ?_)
    · obtain ⟨_, _, ⟨_, _, _, rfl, _⟩, _⟩ := h
      rfl
    obtain ⟨t, _, ⟨d, xs, ds, rfl, hd, hds, hh, hlen, rfl⟩, k⟩ := h
    refine ⟨_, (pss_cons (ps_set (i := 1) scLsg.nd rfl (Or.inl rfl) (pe_lst pa_nil))
      (pss_cons (ps_for PassesOwn.never rfl (pi_tup (pv 0)) (pg_name (i := 2) scLsg.nd rfl (Or.inl rfl)) (pss_one (ps_if (pt_cmpR op_eq (pe_ix ix_tup (pv 2) pe_int (fun _ _ => rfl)) pe_str (nomark _)) (pss_one (ps_expr (pe_bm PySem.F.plainAttrs_list PySem.F.slot_list_append PySem.F.type_list_append mt_append (pv 1) (pa_cons (pv 2) pa_nil)))) (pss_one (ps_set (i := 1) scLsg.nd rfl (Or.inl rfl) (pe_op op_cat (pe_op op_cat (pe_op op_cat (pv 1) (pe_lst (pa_cons (pe_tup (pa_cons pe_str (pa_cons (pe_ix ix_tup (pv 2) pe_int (fun _ _ => rfl)) pa_nil))) pa_nil))) (pe_call G hr (by rfl) R.g R.F.kp R.b .nil pass0 (pa_cons (pe_ix ix_tup (pv 2) pe_int (fun _ _ => rfl)) pa_nil))) (pe_lst (pa_cons (pe_tup (pa_cons pe_str pa_nil)) pa_nil))))))))
      (pss_one (ps_ret (pv 1))))), ?_⟩
    have lds := nds_len hds
    have small : ∀ {m : Nat}, m ≤ 5000 → m < sizeLine := fun h => Nat.lt_of_le_of_lt h (by decide)
    refine ⟨Nat.zero_le _, fun F0 hF0 => ?_⟩
    have s0 : Sm P H (upd H F0 (.lst [])) := Sm.new t hF0
    refine ⟨_, rfl, d, rfl, ⟨_, s0.tup t hd⟩, for_tup (xs := xs) (fun i σ H' => ∃ (Fa : Addr) (ys : List V) (v2 : Option V), σ = [some (.ref d), some (.ref Fa), v2] ∧ Sm P H H' ∧ H Fa = none ∧ Fa ≠ P ∧ H' Fa = some (.lst ys) ∧ Paired (SgV K H') ys (sgs (ds.take i)))
      ⟨F0, [], none, rfl, s0, hF0, nPt t hF0, upd_same, by simp only [List.take_zero, sgs]; exact .nil⟩ (fun i σ H' _ ⟨_, _, _, _, s, _⟩ => s.tup t hd) ?_ ?_⟩
    · rintro i x σ H' hx ⟨Fa, ys, v2, rfl, s1, hFa0, FP, hFa, hp⟩
      obtain ⟨n, hn, hnx⟩ := nds_at hds hx
      have ly : ys.length ≤ 1000 := by
        rw [Paired.length hp]
        exact Nat.le_trans (sgs_take_le ds i) hlen
      cases n with
      | tx z =>
        obtain ⟨q, rfl, hq⟩ := nd_tx (nd_tp (Tp.sm t s1) _ _ hnx)
        refine ⟨_, rfl, q, _, _, _, rfl, rfl, hq, atI_nat (j := 0) rfl, rfl, _, rfl, iteT ?_⟩
        refine ⟨_, rfl, .inl ⟨rfl, _, SqL.of hFa⟩, _, rfl, Fa, _, _, rfl, rfl, hFa, small (by omega), ?_⟩
        refine ⟨Fa, ys ++ [.ref q], _, rfl, s1.mut hFa0 FP, hFa0, FP, upd_same, ?_⟩
        rw [sgs_snoc hn]
        have e : sgN (.tx z) = [.tx z] := by simp only [sgN]
        rw [e]
        exact paired_append (sgs_tp (Tp.lst hFa) hp) (.cons ⟨q, rfl, (Tp.lst hFa).sq hq⟩ .nil)
      | el l es =>
        obtain ⟨q, b0, ys0, rfl, hq, hb0, hes⟩ := nd_el (nd_tp (Tp.sm t s1) _ _ hnx)
        have hhi : hiS es < h := by
          have := hi_at hn
          simp only [hiN] at this
          omega
        have e : sgN (.el l es) = .op l :: (sgs es ++ [.cl]) := by simp only [sgN]
        have les : (sgs es).length ≤ 1000 := by
          have z := sgs_take_le ds (i + 1)
          rw [sgs_snoc hn, e, List.length_append, List.length_cons, List.length_append] at z
          omega
        refine ⟨_, rfl, q, _, _, _, rfl, rfl, hq, atI_nat (j := 0) rfl, rfl, _, rfl, ?_⟩
        rw [dstr (by decide +kernel)]
        refine iteF ?_
        -- found + [("open", node[1])]
        refine ⟨_, rfl, _, rfl, q, _, _, _, rfl, rfl, hq, atI_nat (j := 1) rfl, (by show 2 ≤ sizeLine; decide), fun T1 hT1 => ⟨(by show 1 ≤ sizeLine; decide), fun L1 hL1 => ?_⟩⟩
        have n1 := Sm.new (o := .tup [.str "open", .str l]) s1.2 hT1
        have n2 := n1.trans (Sm.new (o := .lst [.ref T1]) n1.2 hL1)
        refine ⟨Fa, L1, ys, [.ref T1], rfl, rfl, n2.atL s1.2 hFa, upd_same, Nat.le_of_lt (small (by show ys.length + 1 ≤ 5000; omega)), fun p1 hp1 => ?_⟩
        have n3 := n2.trans (Sm.new (o := .lst (ys ++ [.ref T1])) n2.2 hp1)
        have hq3 := n3.tup s1.2 hq
        -- .. + _law_signs(node[2])
        refine ⟨_, rfl, q, _, _, _, rfl, rfl, hq3, atI_nat (j := 2) rfl, n3.2, _, ⟨b0, ys0, es, rfl, n3.tup s1.2 hb0, nds_tp (Tp.sm s1.2 n3) _ _ hes, hhi, les, rfl⟩, fun sv H5 s5 ⟨q5, zs, e5, h5, hp5⟩ => ?_⟩
        subst e5
        have lz : zs.length ≤ 1000 := by
          rw [Paired.length hp5]
          exact les
        refine ⟨p1, q5, ys ++ [.ref T1], zs, rfl, rfl, s5.atL n3.2 upd_same, h5, Nat.le_of_lt (small (by rw [List.length_append]; show ys.length + 1 + zs.length ≤ 5000; omega)), fun p2 hp2 => ?_⟩
        have n5 := n3.trans s5
        have n6 := n5.trans (Sm.new (o := .lst (ys ++ [.ref T1] ++ zs)) n5.2 hp2)
        -- .. + [("close",)]
        refine ⟨(by show 1 ≤ sizeLine; decide), fun T2 hT2 => ⟨(by show 1 ≤ sizeLine; decide), fun L2' hL2 => ?_⟩⟩
        have n7 := n6.trans (Sm.new (o := .tup [.str "close"]) n6.2 hT2)
        have n8 := n7.trans (Sm.new (o := .lst [.ref T2]) n7.2 hL2)
        have m78 := (Sm.new (o := .tup [.str "close"]) n6.2 hT2).trans (Sm.new (o := .lst [.ref T2]) n7.2 hL2)
        refine ⟨p2, L2', ys ++ [.ref T1] ++ zs, [.ref T2], rfl, rfl, m78.atL n6.2 upd_same, upd_same, Nat.le_of_lt (small (by rw [List.length_append, List.length_append]; show ys.length + 1 + zs.length + 1 ≤ 5000; omega)), fun p3 hp3 => ?_⟩
        have n9 := n8.trans (Sm.new (o := .lst (ys ++ [.ref T1] ++ zs ++ [.ref T2])) n8.2 hp3)
        have m9 := m78.trans (Sm.new (o := .lst (ys ++ [.ref T1] ++ zs ++ [.ref T2])) n8.2 hp3)
        have m6 := (Sm.new (o := .lst (ys ++ [.ref T1] ++ zs)) n5.2 hp2).trans m9
        have m5 := s5.trans m6

        have k2 := (Sm.new (o := .lst [.ref T1]) n1.2 hL1).trans ((Sm.new (o := .lst (ys ++ [.ref T1])) n2.2 hp1).trans m5)
        have k8 := (Sm.new (o := .lst [.ref T2]) n7.2 hL2).trans (Sm.new (o := .lst (ys ++ [.ref T1] ++ zs ++ [.ref T2])) n8.2 hp3)
        refine ⟨p3, _, _, rfl, s1.trans n9, (s1.trans n8).free t hp3, nPt n8.2 hp3, upd_same, ?_⟩
        rw [sgs_snoc hn, e]
        have e2 : sgs (ds.take i) ++ (.op l :: (sgs es ++ [.cl])) = (sgs (ds.take i) ++ [.op l] ++ sgs es) ++ [.cl] := by simp
        rw [e2]
        refine paired_append (paired_append (paired_append (sgs_mono s1.2 n9 hp) (.cons ⟨T1, rfl, k2.tup n1.2 (.inl (.inl upd_same))⟩ .nil)) (sgs_mono n5.2 m6 hp5)) (.cons ⟨T2, rfl, k8.tup n7.2 (.inl (.inl upd_same))⟩ .nil)
    · rintro σ H' ⟨Fa, ys, v2, rfl, s1, hFa0, FP, hFa, hp⟩
      rw [lds, List.take_length] at hp
      exact ⟨_, rfl, k _ _ s1 ⟨Fa, ys, rfl, hFa, hp⟩⟩
end
end K6

set_option Elab.async false
set_option linter.all false
set_option maxRecDepth 100000
set_option maxHeartbeats 4000000
namespace K6
open PySem PySem.Spec PyProof.Rows L2 So
def tPartP (K : PySem.W.Frag) : TE := fun σ H Q => ∃ (B a : Addr) (xs : List V) (zT zI : Addr) (pile : List Nat), σ[2]? = some (some (.ref B)) ∧ σ[0]? = some (some (.ref a)) ∧ SqT K H a xs ∧ xs[2]? = some (.ref zT) ∧ xs[3]? = some (.ref zI) ∧ SqL K H B (iV pile) ∧ Q (.ref (if pile.length = 1 then zT else zI)) H
theorem ixN_end (n : Nat) : ixN (n + 1) (((n + 1 : Nat) : Int) - 1) = some n := by
  have e : ((n + 1 : Nat) : Int) - 1 = (n : Int) := by omega
  rw [e]
  unfold ixN
  rw [if_pos (by omega), if_pos (by omega)]
  rfl
theorem atI_end {ys : List V} {y : V} : atI (ys ++ [y]) (((ys ++ [y]).length : Nat) - 1 : Int) = some y := by
  unfold atI
  rw [List.length_append]
  show (ixN (ys.length + 1) (((ys.length + 1 : Nat) : Int) - 1)).bind _ = _
  rw [ixN_end]
  simp
theorem mc_parts {K : PySem.W.Frag} {H : Hp} {v : V} {M : Mc} (h : McS (SqT K) H v M) : ∃ a xs zT zI bs ti, v = .ref a ∧ SqT K H a xs ∧ xs[2]? = some (V.ref zT) ∧ xs[3]? = some (V.ref zI) ∧ PartS K H zT M true ∧ PartS K H zI M false ∧ SqT K H zI ti ∧ ti[1]? = some (V.ref bs) ∧ SqT K H bs (iV M.inn.st) ∧
    ∃ tt t3, SqT K H zT tt ∧ tt[1]? = some (.int (M.tp.s : Nat)) ∧ tt[4]? = some t3 ∧ RowsS (SqT K) H t3 (aV M.tp.an) ∧ ∃ bL bX, xs[0]? = some (V.ref bL) ∧ xs[1]? = some (V.ref bX) ∧ SqT K H bL (sV M.L) ∧ SqT K H bX (sV M.X) := by
  obtain ⟨a, vL, vX, vT, vI, rfl, ha, ⟨bL, rfl, hbL⟩, ⟨bX, rfl, hbX⟩, ⟨zT, t1, t2, t3, rfl, hzT, ht1, ht2, ht3⟩, ⟨zI, i1, i2, i3, rfl, hzI, ⟨bs, rfl, hbs⟩, hi2, hi3⟩⟩ := h
  exact ⟨a, _, zT, zI, bs, _, rfl, ha, rfl, rfl, ⟨_, t1, t2, hzT, rfl, rfl, ht1, ht2⟩, ⟨_, i2, i3, hzI, rfl, rfl, hi2, hi3⟩, hzI, rfl, hbs, _, t3, hzT, rfl, rfl, ht3, bL, bX, rfl, rfl, hbL, hbX⟩
section
variable {Pg : Program} {w : World} {K : PySem.W.Frag} {mg : Str → Option Value} {base : Heap} {P : Addr}
abbrev sPil : Stmt := top 52
theorem scPil : FnScope ["machine", "signs", "pile", "sign", "part", "child"] ["machine", "signs"] (defScope sPil) := ⟨rfl, rfl, rfl, by decide +kernel, rfl, by decide +kernel, by decide +kernel⟩
def spPil (K : PySem.W.Frag) (P : Addr) : Sp := Pu P fun vs H R => ∃ (v : V) (M : Mc) (q : Addr) (ys : List V) (ds : List Nd), vs = [v, .ref q] ∧ McS (SqT K) H v M ∧ M.ok ∧ SqL K H q ys ∧ Paired (SgV K H) ys (sgs ds) ∧ (sgs ds).length ≤ 1000 ∧ R = fun v H' => ItS (SqT K) H' v (bV (M.ans ds))
theorem ok_pil {f fK : Addr} {fd fdK : FuncData} (F : Fun K "_law_by_pile" "_law_by_pile" sPil f fd) (T : Ty K mg) (Kn : Df K mg "_law_kind" sKin ["names", "name"] fK fdK) : FnOk Pg w K mg base CX0 2 f fd ["machine", "signs"] (spPil K P) := by
  have GK : FnOk Pg w K mg base CX0 1 fK fdK ["names", "name"] (spKnd K P) := ok_kin Kn.F T
  refine F.ok scPil (fun vs H Q E h => ?_) (fun cdv A' outer s H vs Q E hr h => ?_)
  · obtain ⟨_, _, ⟨_, _, _, _, _, rfl, _⟩, _⟩ := h
    rfl
  · obtain ⟨t, _, ⟨v, M, q, ys, ds, rfl, hM, ok, hq, hrow, slen, rfl⟩, k⟩ := h
    have r1 : Room 1 _ := hr
    refine ⟨_, (pss_cons (ps_set (i := 2) scPil.nd rfl (Or.inl rfl) (pe_lst (pa_cons (pe_ix ix_tup (pe_ix ix_tup (pv 0) pe_int (fun _ _ => rfl)) pe_int (fun _ _ => rfl)) pa_nil)))
      (pss_cons (ps_for PassesOwn.never rfl (pi_list (pv 1)) (pg_name (i := 3) scPil.nd rfl (Or.inl rfl)) (pss_cons (ps_set (i := 4) scPil.nd rfl (Or.inl rfl) (pe_weak (t' := tPartP K) (pe_ifExp (pt_cmpR op_eq (pe_callB call_len_seq (by rfl) T.T.len (by decide +kernel) (pa_cons (pv 2) pa_nil)) pe_int (nomark _)) (pe_ix ix_tup (pv 0) pe_int (fun _ _ => rfl)) (pe_ix ix_tup (pv 0) pe_int (fun _ _ => rfl))) (by
            rintro σ H Q ⟨B, a, xs, zT, zI, pile, e2, e0, ha, x2, x3, hB, q⟩
            refine ⟨_, e2, B, _, rfl, .inl hB, rfl, _, rfl, ite2 (fun z => ⟨_, e0, a, _, _, _, rfl, rfl, ha, atI_nat (j := 2) x2, ?_⟩) (fun z => ⟨_, e0, a, _, _, _, rfl, rfl, ha, atI_nat (j := 3) x3, ?_⟩)⟩
            · have z1 := V.int.inj (of_decide_eq_true z)
              rw [iV_len] at z1
              rw [if_pos (by omega)] at q
              exact q
            · have z1 : ¬ pile.length = 1 := fun e => z (decide_eq_true (by rw [iV_len, e]; rfl))
              rw [if_neg z1] at q
              exact q)))
      (pss_one (ps_if (pt_cmpR op_eq (pe_ix ix_tup (pv 3) pe_int (fun _ _ => rfl)) pe_str (nomark _)) (pss_one (ps_asg (pe_ix ix_tup (pe_ix ix_tup (pe_ix ix_tup (pv 4) pe_int (fun _ _ => rfl)) (pe_call GK r1 (by rfl) Kn.g Kn.F.kp Kn.b .nil pass0 (pa_cons (pe_ix ix_tup (pv 0) pe_int (fun _ _ => rfl)) (pa_cons (pe_ix ix_tup (pv 3) pe_int (fun _ _ => rfl)) pa_nil))) (fun _ _ => rfl)) (pe_ix ix_list (pv 2) (pe_op op_sub (pe_callB call_len_seq (by rfl) T.T.len (by decide +kernel) (pa_cons (pv 2) pa_nil)) pe_int) (fun _ _ => rfl)) (fun _ _ => rfl)) (pg_sub (pv 2) (pe_op op_sub (pe_callB call_len_seq (by rfl) T.T.len (by decide +kernel) (pa_cons (pv 2) pa_nil)) pe_int) set_list))) (pss_one (ps_if (pt_cmpR op_eq (pe_ix ix_tup (pv 3) pe_int (fun _ _ => rfl)) pe_str (nomark _)) (pss_one (ps_expr (pe_bm PySem.F.plainAttrs_list PySem.F.slot_list_append PySem.F.type_list_append mt_append (pv 2) (pa_cons (pe_ix ix_tup (pe_ix ix_tup (pe_ix ix_tup (pv 0) pe_int (fun _ _ => rfl)) pe_int (fun _ _ => rfl)) (pe_call GK r1 (by rfl) Kn.g Kn.F.kp Kn.b .nil pass0 (pa_cons (pe_ix ix_tup (pv 0) pe_int (fun _ _ => rfl)) (pa_cons (pe_ix ix_tup (pv 3) pe_int (fun _ _ => rfl)) pa_nil))) (fun _ _ => rfl)) pa_nil)))) (pss_cons (ps_set (i := 5) scPil.nd rfl (Or.inl rfl) (pe_bm0 PySem.F.plainAttrs_list PySem.F.slot_list_pop PySem.F.type_list_pop mt_pop (pv 2)))
      (pss_cons (ps_set (i := 4) scPil.nd rfl (Or.inl rfl) (pe_weak (t' := tPartP K) (pe_ifExp (pt_cmpR op_eq (pe_callB call_len_seq (by rfl) T.T.len (by decide +kernel) (pa_cons (pv 2) pa_nil)) pe_int (nomark _)) (pe_ix ix_tup (pv 0) pe_int (fun _ _ => rfl)) (pe_ix ix_tup (pv 0) pe_int (fun _ _ => rfl))) (by
            rintro σ H Q ⟨B, a, xs, zT, zI, pile, e2, e0, ha, x2, x3, hB, q⟩
            refine ⟨_, e2, B, _, rfl, .inl hB, rfl, _, rfl, ite2 (fun z => ⟨_, e0, a, _, _, _, rfl, rfl, ha, atI_nat (j := 2) x2, ?_⟩) (fun z => ⟨_, e0, a, _, _, _, rfl, rfl, ha, atI_nat (j := 3) x3, ?_⟩)⟩
            · have z1 := V.int.inj (of_decide_eq_true z)
              rw [iV_len] at z1
              rw [if_pos (by omega)] at q
              exact q
            · have z1 : ¬ pile.length = 1 := fun e => z (decide_eq_true (by rw [iV_len, e]; rfl))
              rw [if_neg z1] at q
              exact q)))
      (pss_one (ps_asg (pe_ix ix_tup (pe_ix ix_tup (pe_ix ix_tup (pv 4) pe_int (fun _ _ => rfl)) (pv 5) (fun _ _ => rfl)) (pe_ix ix_list (pv 2) (pe_op op_sub (pe_callB call_len_seq (by rfl) T.T.len (by decide +kernel) (pa_cons (pv 2) pa_nil)) pe_int) (fun _ _ => rfl)) (fun _ _ => rfl)) (pg_sub (pv 2) (pe_op op_sub (pe_callB call_len_seq (by rfl) T.T.len (by decide +kernel) (pa_cons (pv 2) pa_nil)) pe_int) set_list)))))))))))
      (pss_one (ps_ret (pe_ix ix_tup (pe_ix ix_tup (pe_ix ix_tup (pv 0) pe_int (fun _ _ => rfl)) pe_int (fun _ _ => rfl)) (pe_ix ix_list (pv 2) pe_int (fun _ _ => rfl)) (fun _ _ => rfl)))))), ?_⟩
    obtain ⟨a, xa, zT, zI, bs, ti, rfl, ha, x2, x3, pT, pI, hti, ti1, hbs, tt, t3, htt, tt1, tt4, R3, bL, bX, x0, x1, hbL, hbX⟩ := mc_parts hM
    have fL := okL6 ok
    have fX := okX4 ok
    have o3 := ok.2.2.1
    have o4 := ok.2.2.2
    refine ⟨_, rfl, a, _, _, _, rfl, rfl, ha, atI_nat (j := 2) x2, zT, _, _, _, rfl, rfl, htt, atI_nat (j := 1) tt1, (by show 1 ≤ sizeLine; decide), fun B hB => ?_⟩
    have BP : B ≠ P := nPt t hB
    have n2 : Sm P H (upd H B (.lst [.int (M.tp.s : Nat)])) := Sm.new t hB
    have lg : ys.length = (sgs ds).length := Paired.length hrow
    refine ⟨_, rfl, q, rfl, ⟨_, n2.lst t hq⟩, for_list (K := K) (a := q) (xs := ys) (fun i σ H' => ∃ (pile : List Nat) (v3 v4 v5 : Option V), σ = [some (.ref a), some (.ref q), some (.ref B), v3, v4, v5] ∧
      Sm P H H' ∧ H' B = some (.lst (iV pile.reverse)) ∧ okPile M pile ∧ pile = M.run [M.tp.s] ((sgs ds).take i) ∧ dep ((sgs ds).drop i) (pile.length - 1) = some 0 ∧ pile.length ≤ i + 1)
      ⟨[M.tp.s], none, none, none, rfl, n2, upd_same, o4.2.2.1, rfl, dep_doc ds, Nat.le_refl _⟩ (fun i σ H' _ ⟨_, _, _, _, _, s, _⟩ => s.lst t hq) ?_ ?_⟩
    · rintro i x σ H' hx ⟨pile, v3, v4, v5, rfl, m1, hB1, okp, hrun, hdep, hlen⟩
      obtain ⟨g, hg, qg, rfl, hqg0⟩ := paired_get hrow hx
      have hqg : SqT K H' qg g.vs := m1.tup t hqg0
      have hi : i < (sgs ds).length := (List.getElem?_eq_some_iff.mp hg).1
      rw [drop_at hg] at hdep
      have nxt : M.run [M.tp.s] ((sgs ds).take (i + 1)) = M.step pile g := by
        rw [take_snoc hg, run_app, ← hrun]
        rfl
      refine ⟨B, a, xa, zT, zI, pile.reverse, rfl, rfl, m1.tup t ha, x2, x3, SqL.of hB1, ?_⟩
      cases pile with
      | nil => exact okp.elim
      | cons s r =>
        have ez : (if (s :: r).reverse.length = 1 then zT else zI) = if r.isEmpty then zT else zI := by
          cases r <;> simp
        rw [ez]
        have hpart : PartS K H' (if r.isEmpty then zT else zI) M r.isEmpty := by
          cases r with
          | nil => exact pT.mono t m1
          | cons y r => exact pI.mono t m1
        have hs := okPile_hd okp
        generalize (if r.isEmpty then zT else zI) = zp at hpart ⊢
        rw [iV_rev] at hB1
        cases g with
        | tx z =>
          refine ⟨_, rfl, qg, _, _, _, rfl, rfl, hqg, atI_nat (j := 0) rfl, rfl, _, rfl, iteT ?_⟩
          have hlt : M.txt r.isEmpty z s < (if r.isEmpty then M.tp.n else M.inn.m) := txt_lt ok hs
          obtain ⟨xs1, a2, ys1, b, h1, e2, h2, e3, us, h3, e4⟩ := part_txt ok hpart z hs
          refine ⟨_, rfl, zp, _, _, _, rfl, rfl, h1, atI_nat (j := 2) e2, _, rfl, a, _, _, _, rfl, rfl, m1.tup t ha, atI_nat (j := 1) x1, _, rfl, qg, _, _, _, rfl, rfl, hqg, atI_nat (j := 1) rfl, m1.2, _, ⟨bX, M.X, z, rfl, m1.tup t hbX, by omega, rfl⟩, fun kv H4 s4 ek => ?_⟩
          subst ek
          have hB4 := s4.atL m1.2 hB1
          refine ⟨a2, _, _, _, rfl, rfl, s4.tup m1.2 h2, atI_nat e3, _, rfl, _, rfl, B, _, rfl, .inl (SqL.of hB4), _, _, rfl, rfl, B, _, _, _, rfl, rfl, SqL.of hB4, atI_end, b, _, _, _, rfl, rfl, s4.tup m1.2 h3, atI_nat e4, ?_⟩
          refine ⟨_, rfl, _, rfl, B, _, rfl, .inl (SqL.of hB4), _, _, rfl, rfl, B, _, _, (iV r.reverse).length, rfl, rfl, hB4, by rw [List.length_append]; exact ixN_end _, ?_⟩
          refine ⟨M.txt r.isEmpty z s :: r, _, _, _, rfl, (m1.trans s4).mut hB BP, ?_, okPile_set okp hlt, by rw [nxt]; rfl, hdep, by simp at hlen ⊢; omega⟩
          rw [upd_same, set_last, iV_rev]
        | op l =>
          refine ⟨_, rfl, qg, _, _, _, rfl, rfl, hqg, atI_nat (j := 0) rfl, rfl, _, rfl, ?_⟩
          rw [dstr (by decide +kernel)]
          refine iteF ⟨_, rfl, qg, _, _, _, rfl, rfl, hqg, atI_nat (j := 0) rfl, rfl, _, rfl, iteT ?_⟩
          have hst : kd M.L l < M.inn.st.length := by
            have := kd_le M.L l
            have q1 := o3.2.2.1
            omega
          refine ⟨_, rfl, .inl ⟨rfl, _, SqL.of hB1⟩, _, rfl, a, _, _, _, rfl, rfl, m1.tup t ha, atI_nat (j := 3) x3, zI, _, _, _, rfl, rfl, m1.tup t hti, atI_nat (j := 1) ti1, _, rfl, a, _, _, _, rfl, rfl, m1.tup t ha, atI_nat (j := 0) x0, _, rfl, qg, _, _, _, rfl, rfl, hqg, atI_nat (j := 1) rfl, m1.2, _, ⟨bL, M.L, l, rfl, m1.tup t hbL, by omega, rfl⟩, fun kv H4 s4 ek => ?_⟩
          subst ek
          have hB4 := s4.atL m1.2 hB1
          refine ⟨bs, _, _, _, rfl, rfl, s4.tup m1.2 (m1.tup t hbs), atI_nat (iV_get hst), B, _, _, rfl, rfl, hB4, ?_, ?_⟩
          · rw [List.length_append, iV_len, List.length_reverse]
            simp at hlen
            exact Nat.lt_of_lt_of_le (by show r.length + 1 < 10000; omega) (by decide)
          · refine ⟨M.start l :: s :: r, _, _, _, rfl, (m1.trans s4).mut hB BP, ?_, okPile_push okp (start_lt ok l), by rw [nxt]; rfl, hdep, by simp at hlen ⊢; omega⟩
            rw [upd_same, iV_rev, iV_rev]
            rfl
        | cl =>
          cases r with
          | nil => cases hdep
          | cons s' r' =>
            refine ⟨_, rfl, qg, _, _, _, rfl, rfl, hqg, atI_nat (j := 0) rfl, rfl, _, rfl, ?_⟩
            rw [dstr (by decide +kernel)]
            refine iteF ⟨_, rfl, qg, _, _, _, rfl, rfl, hqg, atI_nat (j := 0) rfl, rfl, _, rfl, ?_⟩
            rw [dstr (by decide +kernel)]
            refine iteF ?_
            refine ⟨_, rfl, .inl ⟨rfl, _, SqL.of hB1⟩, B, _, _, rfl, rfl, hB1, pop_last _ _, ?_⟩
            rw [List.dropLast_concat, iV_rev]
            have m2 : Sm P H (upd H' B (.lst (iV r'.reverse ++ [V.int (s' : Nat)]))) := m1.mut hB BP
            refine ⟨B, a, xa, zT, zI, (s' :: r').reverse, rfl, rfl, m2.tup t ha, x2, x3, SqL.of (by rw [upd_same, iV_rev]), ?_⟩
            have ez' : (if (s' :: r').reverse.length = 1 then zT else zI) = if r'.isEmpty then zT else zI := by
              cases r' <;> simp
            rw [ez']
            have hpart' : PartS K (upd H' B (.lst (iV r'.reverse ++ [V.int (s' : Nat)]))) (if r'.isEmpty then zT else zI) M r'.isEmpty := by
              cases r' with
              | nil => exact pT.mono t m2
              | cons y r => exact pI.mono t m2
            obtain ⟨hc, okp'⟩ := okPile_tl okp
            have hs' := okPile_hd okp'
            generalize (if r'.isEmpty then zT else zI) = zp' at hpart' ⊢
            have hlt : M.chi r'.isEmpty s s' < (if r'.isEmpty then M.tp.n else M.inn.m) := chi_lt ok hc hs'
            obtain ⟨xs1, a2, ys1, b, h1, e2, h2, e3, us, h3, e4⟩ := part_chi ok hpart' hc hs'
            refine ⟨_, rfl, zp', _, _, _, rfl, rfl, h1, atI_nat (j := 3) e2, _, rfl, a2, _, _, _, rfl, rfl, h2, atI_nat e3, _, rfl, _, rfl, B, _, rfl, .inl (SqL.of upd_same), _, _, rfl, rfl, B, _, _, _, rfl, rfl, SqL.of upd_same, atI_end, b, _, _, _, rfl, rfl, h3, atI_nat e4, ?_⟩
            refine ⟨_, rfl, _, rfl, B, _, rfl, .inl (SqL.of upd_same), _, _, rfl, rfl, B, _, _, (iV r'.reverse).length, rfl, rfl, upd_same, by rw [List.length_append]; exact ixN_end _, ?_⟩
            refine ⟨M.chi r'.isEmpty s s' :: r', _, _, _, rfl, m2.mut hB BP, ?_, okPile_set okp' hlt, by rw [nxt]; rfl, hdep, by simp at hlen ⊢; omega⟩
            rw [upd_same, set_last, iV_rev]
    · rintro σ H' ⟨pile, v3, v4, v5, rfl, m1, hB1, okp, hrun, hdep, hlen⟩
      rw [lg, List.take_length, run_row] at hrun
      subst hrun
      have hlt : M.row true M.tp.s ds < M.tp.an.length := by
        rw [o4.2.2.2.2.2.2.2.1]
        exact okp
      obtain ⟨a2, ys2, b2, rfl, ha2, hy2, hb2⟩ := arows_at (R3.mono mo_tup t m1) hlt
      refine ⟨_, rfl, a, _, _, _, rfl, rfl, m1.tup t ha, atI_nat (j := 2) x2, zT, _, _, _, rfl, rfl, m1.tup t htt, atI_nat (j := 4) tt4, _, rfl, B, _, _, _, rfl, rfl, SqL.of hB1, atI_nat (j := 0) rfl, a2, _, _, _, rfl, rfl, ha2, atI_nat hy2, ?_⟩
      exact k _ _ m1 ⟨b2, rfl, hb2⟩
end
end K6

set_option Elab.async false
set_option linter.all false
set_option maxRecDepth 100000
set_option maxHeartbeats 4000000
namespace K6
open PySem PySem.Spec PyProof.Rows L2 So
theorem Box.keep {P b : Addr} {H H1 : Hp} (t : GxR.TabG H P) (s : Sm P H H1) (h : Box H b) : Box H1 b := by
  obtain ⟨g, z, e, r⟩ := h
  exact ⟨g, z, s.atL t e, r⟩
/-! ### what draws leave -/
structure SB (P b : Addr) (H H' : Hp) : Prop where
  keep : ∀ c o, c ≠ P → c ≠ b → H c = some o → H' c = some o
  tab : GxR.TabG H' P
  box : Box H' b
section
variable {K : PySem.W.Frag} {P b : Addr} {H H1 H2 : Hp}
theorem SB.refl (t : GxR.TabG H P) (bx : Box H b) : SB P b H H := ⟨fun _ _ _ _ h => h, t, bx⟩
theorem SB.trans (a : SB P b H H1) (c : SB P b H1 H2) : SB P b H H2 := ⟨fun x o h1 h2 e => c.keep x o h1 h2 (a.keep x o h1 h2 e), c.tab, c.box⟩
theorem SB.sm (bx : Box H b) (t : GxR.TabG H P) (s : Sm P H H1) : SB P b H H1 := ⟨fun x o h1 _ e => s.1 x o h1 e, s.2, bx.keep t s⟩
theorem SB.draw {g z : Int} (t : GxR.TabG H P) (bP : b ≠ P) (h1 : 0 ≤ g) (h2 : 0 ≤ z) (h3 : z ≤ 2147483563) : SB P b H (upd H b (.lst [.int g, .int z])) := by
  refine ⟨fun x o _ hb e => by rw [upd_ne hb]; exact e, ?_, box_of h1 h2 h3⟩
  obtain ⟨ps, e, r⟩ := t
  exact ⟨ps, by rw [upd_ne (Ne.symm bP)]; exact e, r⟩
theorem SB.mut {F : Addr} {o : HO} (a : SB P b H H1) (h : H F = none) (FP : F ≠ P) (Fb : F ≠ b) : SB P b H (upd H1 F o) := by
  refine ⟨fun x u h1 h2 e => ?_, ?_, ?_⟩
  · rw [upd_ne (ne_of_none e h)]
    exact a.keep x u h1 h2 e
  · obtain ⟨ps, e, r⟩ := a.tab
    exact ⟨ps, by rw [upd_ne (Ne.symm FP)]; exact e, r⟩
  · obtain ⟨g, z, e, r⟩ := a.box
    exact ⟨g, z, by rw [upd_ne (Ne.symm Fb)]; exact e, r⟩
theorem SB.tp (a : SB P b H H1) (t : GxR.TabG H P) (bx : Box H b) : Tp H H1 := fun c xs r => by
  obtain ⟨g, z, e, _⟩ := bx
  rcases r with r | ⟨u, r⟩
  · exact .inl (a.keep _ _ (tab_tup t r (fun _ q => nomatch q)) (ne_of r e (fun q => nomatch q)) r)
  · exact .inr ⟨u, a.keep _ _ (tab_tup t r (fun _ q => nomatch q)) (ne_of r e (fun q => nomatch q)) r⟩
theorem SB.free (a : SB P b H H1) (t : GxR.TabG H P) (bx : Box H b) {c : Addr} (h : H1 c = none) : H c = none := by
  cases q : H c with
  | none => rfl
  | some o =>
    by_cases e : c = P
    · obtain ⟨ps, z, _⟩ := a.tab
      rw [e, z] at h
      cases h
    · by_cases e2 : c = b
      · obtain ⟨g, z, z2, _⟩ := a.box
        rw [e2, z2] at h
        cases h
      · rw [a.keep _ _ e e2 q] at h
        cases h
theorem box_ne {c : Addr} (bx : Box H b) (h : H c = none) : c ≠ b := by
  obtain ⟨_, _, e, _⟩ := bx
  exact (ne_of_none e h).symm
end
def nb : Nat → Nat
  | 0 => 1
  | n + 1 => 3 * nb n + 2
/-- a drawn document of at most so many nodes side by side -/
def dOk (n i : Nat) (ds : List Nd) : Prop := (sgs ds).all Sg.ok = true ∧ (sgs ds).length ≤ i * nb n ∧ hiS ds ≤ n
theorem dOk_snoc {n i : Nat} {ds : List Nd} {d : Nd} (h : dOk n i ds) (h1 : (sgN d).all Sg.ok = true) (h2 : (sgN d).length ≤ nb n) (h3 : hiN d ≤ n) : dOk n (i + 1) (ds ++ [d]) := by
  have e : sgs (ds ++ [d]) = sgs ds ++ sgN d := by
    rw [sgs_append]
    simp [sgs]
  obtain ⟨a1, a2, a3⟩ := h
  refine ⟨by rw [e, List.all_append, a1, h1]; rfl, ?_, ?_⟩
  · rw [e, List.length_append, Nat.succ_mul]
    omega
  · have key : ∀ l : List Nd, hiS l ≤ n → hiS (l ++ [d]) ≤ n := by
      intro l
      induction l with
      | nil =>
        intro _
        simp only [List.nil_append, hiS]
        omega
      | cons x r ih =>
        intro q
        simp only [List.cons_append, hiS] at q ⊢
        have := ih (by omega)
        omega
    exact key ds a3
theorem tx_words {z : Str} (h : z ∈ (["x", "y", "z", ""] : List Str)) : z.length ≤ 65535 := by
  have : (["x", "y", "z", ""] : List Str).all (fun z => decide (z.length ≤ 65535)) = true := by decide +kernel
  exact of_decide_eq_true (List.all_eq_true.mp this z h)
theorem lb_words {z : Str} (h : z ∈ (["a", "b", "c"] : List Str)) : Sg.ok (.op z) = true := by
  have : (["a", "b", "c"] : List Str).all (fun z => Sg.ok (.op z)) = true := by decide +kernel
  exact List.all_eq_true.mp this z h
section
variable {Pg : Program} {w : World} {K : PySem.W.Frag} {mg : Str → Option Value} {base : Heap} {P : Addr}
abbrev sLdc : Stmt := top 47
theorem scLdc : FnScope ["box", "depth", "found", "turn"] ["box", "depth"] (defScope sLdc) := ⟨rfl, rfl, rfl, by decide +kernel, rfl, by decide +kernel, by decide +kernel⟩
def spLdc (K : PySem.W.Frag) (P : Addr) (h : Nat) : Sp := fun vs H Q _ => GxR.TabG H P ∧ ∃ (b : Addr) (n : Nat), vs = [.ref b, .int (n : Nat)] ∧ Box H b ∧ b ≠ P ∧ n < h ∧ ∀ v H' ds, SB P b H H' → Dp K H' v (.tuple (ndsD ds)) → dOk n 3 ds → Q v H'
theorem ok_ldc {f fT fP : Addr} {fd fdT fdP : FuncData} (F : Fun K "_law_document" "_law_document" sLdc f fd) (T : Ty K mg) (R : Df K mg "_law_document" sLdc ["box", "depth"] f fd) (Tk : Df K mg "_law_take" sTak ["box", "many"] fT fdT) (Pk : Df K mg "_law_pick" sPck ["box", "some"] fP fdP) :
    ∀ h, FnOk Pg w K mg base CX0 (h + 3) f fd ["box", "depth"] (spLdc K P h)
  | 0 => by
    refine F.ok scLdc (fun vs H Q E h => ?_) (fun cdv A' outer s H vs Q E hr h => ?_)
    · obtain ⟨_, _, _, rfl, _⟩ := h
      rfl
    · obtain ⟨_, _, _, _, _, _, z, _⟩ := h
      exact absurd z (Nat.not_lt_zero _)
  | h + 1 => by
    have GT : FnOk Pg w K mg base CX0 1 fT fdT ["box", "many"] spTak := ok_tak Tk.F T.T
    have GP : FnOk Pg w K mg base CX0 2 fP fdP ["box", "some"] spPck := ok_pck Pk.F T.T Tk
    have G : FnOk Pg w K mg base CX0 (h + 3) f fd ["box", "depth"] (spLdc K P h) := ok_ldc F T R Tk Pk h
    refine F.ok scLdc (fun vs H Q E h => ?_) (fun cdv A' outer s H vs Q E hr h => ?_)
    · obtain ⟨_, _, _, rfl, _⟩ := h
      rfl
    obtain ⟨t, b, n, rfl, bx, bP, hn, kont⟩ := h
    have r1 : Room 1 _ := hr.mono (by omega)
    have r2 : Room 2 _ := hr.mono (by omega)
    refine ⟨_, (pss_cons (ps_set (i := 2) scLdc.nd rfl (Or.inl rfl) (pe_lst pa_nil))
      (pss_cons (ps_for PassesOwn.never rfl (pi_range1 (by rfl) T.T.range (pa_cons (pe_call GT r1 (by rfl) Tk.g Tk.F.kp Tk.b .nil pass0 (pa_cons (pv 0) (pa_cons pe_int pa_nil))) pa_nil)) (pg_name (i := 3) scLdc.nd rfl (Or.inl rfl)) (pss_one (ps_if (PW.pt (pw_or (pt_cmpR op_eq (pv 1) pe_int (nomark _)) (pw_or1 (pt_cmpR op_eq (pe_call GT r1 (by rfl) Tk.g Tk.F.kp Tk.b .nil pass0 (pa_cons (pv 0) (pa_cons pe_int pa_nil))) pe_int (nomark _))))) (pss_one (ps_expr (pe_bm PySem.F.plainAttrs_list PySem.F.slot_list_append PySem.F.type_list_append mt_append (pv 2) (pa_cons (pe_tup (pa_cons pe_str (pa_cons (pe_call GP r2 (by rfl) Pk.g Pk.F.kp Pk.b .nil pass0 (pa_cons (pv 0) (pa_cons (pe_lst (pa_cons pe_str (pa_cons pe_str (pa_cons pe_str (pa_cons pe_str pa_nil))))) pa_nil))) pa_nil))) pa_nil)))) (pss_one (ps_expr (pe_bm PySem.F.plainAttrs_list PySem.F.slot_list_append PySem.F.type_list_append mt_append (pv 2) (pa_cons (pe_tup (pa_cons pe_str (pa_cons (pe_call GP r2 (by rfl) Pk.g Pk.F.kp Pk.b .nil pass0 (pa_cons (pv 0) (pa_cons (pe_lst (pa_cons pe_str (pa_cons pe_str (pa_cons pe_str pa_nil)))) pa_nil))) (pa_cons (pe_call G hr (by rfl) R.g R.F.kp R.b .nil pass0 (pa_cons (pv 0) (pa_cons (pe_op op_sub (pv 1) pe_int) pa_nil))) pa_nil)))) pa_nil)))))))
      (pss_one (ps_ret (pe_tupleOf (by rfl) T.T.tuple (pv 2)))))), ?_⟩
    have small : ∀ {m : Nat}, m ≤ 5000 → m < sizeLine := fun h => Nat.lt_of_le_of_lt h (by decide)
    refine ⟨Nat.zero_le _, fun F0 hF0 => ?_⟩
    have FP : F0 ≠ P := nPt t hF0
    have Fb : F0 ≠ b := box_ne bx hF0
    have a0 : SB P b H (upd H F0 (.lst [])) := (SB.refl t bx).mut hF0 FP Fb
    refine ⟨_, rfl, b, 4, rfl, a0.box, by decide, by decide, fun r q0 q4 g z g0 z0 z1 => ?_⟩
    have a1 := a0.trans (SB.draw a0.tab bP g0 z0 z1)
    obtain ⟨m, rfl⟩ : ∃ m : Nat, r = (m : Int) := ⟨r.toNat, by omega⟩
    refine ⟨m, rfl, by omega, by omega, for_range (lo := 0) (n := m) (fun i σ H' => ∃ (zs : List V) (ds : List Nd) (v3 : Option V), σ = [some (.ref b), some (.int (n : Nat)), some (.ref F0), v3] ∧ SB P b H H' ∧ H' F0 = some (.lst zs) ∧ zs.length = i ∧ DpAll K H' zs (ndsD ds) ∧ dOk n i ds)
      ⟨[], [], none, rfl, a1, by rw [upd_ne Fb, upd_same], rfl, by rw [ndsD]; exact .nil, by unfold dOk; simp [sgs, hiS]⟩ ?_ ?_⟩
    · rintro i σ H' hi ⟨zs, ds, v3, rfl, s1, hF, hl, hd, hk⟩
      have put : ∀ (H5 : Hp) (q : Addr) (d : Nd) (σ5 : L2.St), SB P b H' H5 → Dp K H5 (.ref q) (ndD d) → (sgN d).all Sg.ok = true → (sgN d).length ≤ nb n → hiN d ≤ n → σ5 = [some (.ref b), some (.int (n : Nat)), some (.ref F0), some (.int (0 + (i : Int)))] →
          H5 F0 = some (.lst zs) ∧ zs.length < sizeLine ∧ ∃ (zs' : List V) (ds' : List Nd) (v3 : Option V), σ5 = [some (.ref b), some (.int (n : Nat)), some (.ref F0), v3] ∧ SB P b H (upd H5 F0 (.lst (zs ++ [.ref q]))) ∧ upd H5 F0 (.lst (zs ++ [.ref q])) F0 = some (.lst zs') ∧ zs'.length = i + 1 ∧
            DpAll K (upd H5 F0 (.lst (zs ++ [.ref q]))) zs' (ndsD ds') ∧ dOk n (i + 1) ds' := by
        intro H5 q d σ5 s5 hdq e1 e2 e3 eσ
        have hF5 : H5 F0 = some (.lst zs) := s5.keep _ _ FP Fb hF
        have tp : Tp H5 (upd H5 F0 (.lst (zs ++ [.ref q]))) := Tp.lst hF5
        refine ⟨hF5, small (by omega), zs ++ [.ref q], ds ++ [d], _, eσ, (s1.trans s5).mut hF0 FP Fb, upd_same, by rw [List.length_append, hl]; rfl, ?_, dOk_snoc hk e1 e2 e3⟩
        rw [ndsD_append]
        refine all_append (nds_tp ((s5.tp s1.tab s1.box).trans tp) _ _ hd) ?_
        rw [ndsD, ndsD]
        exact .cons (nd_tp tp _ _ hdq) .nil
      have sg1 : ∀ z : Str, sgN (.tx z) = [.tx z] := fun z => by simp only [sgN]
      have nb1 : 1 ≤ nb n := by
        cases n with
        | zero => exact Nat.le_refl _
        | succ n => show 1 ≤ 3 * nb n + 2; omega
      refine ⟨_, rfl, rfl, _, rfl, ite2 (fun e0 => ?_) (fun e0 => ?_)⟩
      · refine iteT ⟨_, rfl, .inl ⟨rfl, _, SqL.of hF⟩, _, rfl, (by show 4 ≤ sizeLine; decide), fun l hl3 => ?_⟩
        have s0' : SB P b H' H' := SB.refl s1.tab s1.box
        have n3 := Sm.new (o := .lst [.str "x", .str "y", .str "z", .str ""]) s0'.tab hl3
        have b3 := SB.trans s0' (SB.sm s0'.box s0'.tab n3)
        refine ⟨b, l, [.str "x", .str "y", .str "z", .str ""], rfl, b3.box, upd_same, box_ne s0'.box hl3, (by show 0 < 4; decide), (by show 4 < 1000; decide), fun j x hx g z g0 z0 z1 => ?_⟩
        have b4 := b3.trans (SB.draw b3.tab bP g0 z0 z1)
        obtain ⟨u, hu, rfl⟩ := sV_at (L := ["x", "y", "z", ""]) hx
        refine ⟨(by show 2 ≤ sizeLine; decide), fun q hq => ?_⟩
        have c6 := b4.trans (SB.sm b4.box b4.tab (Sm.new (o := .tup [.str "text", .str u]) b4.tab hq))
        obtain ⟨p1, p2, p3⟩ := put _ q (.tx u) _ c6 (nd_tx_mk (.inl (.inl upd_same))) (by rw [sg1, List.all_cons, List.all_nil]; show (decide (u.length ≤ 65535) && true) = true; rw [decide_eq_true (tx_words (List.mem_of_getElem? hu))]; rfl) (by rw [sg1]; exact nb1) (by simp only [hiN]; exact Nat.zero_le _) rfl
        exact ⟨F0, zs, _, rfl, rfl, p1, p2, p3⟩
      · refine ⟨_, rfl, b, 3, rfl, s1.box, by decide, by decide, fun r q0 q3 g z g0 z0 z1 => ?_⟩
        have s2 : SB P b H' (upd H' b (.lst [.int g, .int z])) := SB.draw s1.tab bP g0 z0 z1
        have hF2 := s2.keep _ _ FP Fb hF
        refine ⟨rfl, _, rfl, ite2 (fun e1 => ?_) (fun e1 => ?_)⟩
        · refine ⟨_, rfl, .inl ⟨rfl, _, SqL.of hF2⟩, _, rfl, (by show 4 ≤ sizeLine; decide), fun l hl3 => ?_⟩
          have n3 := Sm.new (o := .lst [.str "x", .str "y", .str "z", .str ""]) s2.tab hl3
          have b3 := SB.trans s2 (SB.sm s2.box s2.tab n3)
          refine ⟨b, l, [.str "x", .str "y", .str "z", .str ""], rfl, b3.box, upd_same, box_ne s2.box hl3, (by show 0 < 4; decide), (by show 4 < 1000; decide), fun j x hx g z g0 z0 z1 => ?_⟩
          have b4 := b3.trans (SB.draw b3.tab bP g0 z0 z1)
          obtain ⟨u, hu, rfl⟩ := sV_at (L := ["x", "y", "z", ""]) hx
          refine ⟨(by show 2 ≤ sizeLine; decide), fun q hq => ?_⟩
          have c6 := b4.trans (SB.sm b4.box b4.tab (Sm.new (o := .tup [.str "text", .str u]) b4.tab hq))
          obtain ⟨p1, p2, p3⟩ := put _ q (.tx u) _ c6 (nd_tx_mk (.inl (.inl upd_same))) (by rw [sg1, List.all_cons, List.all_nil]; show (decide (u.length ≤ 65535) && true) = true; rw [decide_eq_true (tx_words (List.mem_of_getElem? hu))]; rfl) (by rw [sg1]; exact nb1) (by simp only [hiN]; exact Nat.zero_le _) rfl
          exact ⟨F0, zs, _, rfl, rfl, p1, p2, p3⟩
        · obtain ⟨n', rfl⟩ : ∃ n', n = n' + 1 := by
            cases n with
            | zero => exact absurd (decide_eq_true rfl) e0
            | succ n' => exact ⟨n', rfl⟩
          refine ⟨_, rfl, .inl ⟨rfl, _, SqL.of hF2⟩, _, rfl, (by show 3 ≤ sizeLine; decide), fun l hl3 => ?_⟩
          have n3 := Sm.new (o := .lst [.str "a", .str "b", .str "c"]) s2.tab hl3
          have b3 := s2.trans (SB.sm s2.box s2.tab n3)
          refine ⟨b, l, [.str "a", .str "b", .str "c"], rfl, b3.box, upd_same, box_ne s2.box hl3, (by show 0 < 3; decide), (by show 3 < 1000; decide), fun j x hx g z g0 z0 z1 => ?_⟩
          have b4 := b3.trans (SB.draw b3.tab bP g0 z0 z1)
          obtain ⟨u, hu, rfl⟩ := sV_at (L := ["a", "b", "c"]) hx
          have uok := lb_words (List.mem_of_getElem? hu)
          refine ⟨_, rfl, _, rfl, _, _, rfl, rfl, b4.tab, b, n', ?_, b4.box, bP, by omega, fun dv H5 es c5 hdv hes => ?_⟩
          · have e : ((n' + 1 : Nat) : Int) - 1 = (n' : Int) := by omega
            show [V.ref b, V.int (((n' + 1 : Nat) : Int) - 1)] ++ [] = _
            rw [e]
            rfl
          obtain ⟨zd, ws, rfl, hz5, hws⟩ := dp_tup hdv
          refine ⟨(by show 3 ≤ sizeLine; decide), fun q hq => ?_⟩
          have n6 := Sm.new (o := .tup [.str "element", .str u, .ref zd]) c5.tab hq
          have c6 := (b4.trans c5).trans (SB.sm c5.box c5.tab n6)
          obtain ⟨k1, k2, k3⟩ := hes
          have sg2 : sgN (.el u es) = .op u :: (sgs es ++ [.cl]) := by simp only [sgN]
          obtain ⟨p1, p2, p3⟩ := put _ q (.el u es) _ c6 (nd_el_mk (.inl (.inl upd_same)) (n6.tup c5.tab hz5) (nds_tp (Tp.sm c5.tab n6) _ _ hws))
            (by rw [sg2, List.all_cons, List.all_append, uok, k1]; rfl) (by rw [sg2, List.length_cons, List.length_append]; show (sgs es).length + 1 + 1 ≤ 3 * nb n' + 2; omega) (by simp only [hiN]; omega) rfl
          exact ⟨F0, zs, _, rfl, rfl, p1, p2, p3⟩
    · rintro σ H' ⟨zs, ds, v3, rfl, s1, hF, hl, hd, hk⟩
      refine ⟨_, rfl, .inl ⟨F0, zs, rfl, SqL.of hF, fun q hq => ?_⟩⟩
      have n1 := Sm.new (o := .tup zs) s1.tab hq
      refine kont _ _ ds (s1.trans (SB.sm s1.box s1.tab n1)) (.tup (.inl (.inl upd_same)) (nds_tp (Tp.new hq) _ _ hd)) ?_
      obtain ⟨k1, k2, k3⟩ := hk
      exact ⟨k1, Nat.le_trans k2 (Nat.mul_le_mul_right _ (by omega)), k3⟩
end
end K6

set_option Elab.async false
set_option linter.all false
set_option maxRecDepth 100000
set_option maxHeartbeats 4000000
namespace K6
open PySem PySem.Spec PyProof.Rows L2 So
/-! ### rows of draws -/
theorem wipe_one (σ : L2.St) (i : Nat) : wipe σ [i] = σ.set i none := rfl
theorem at_set {σ : L2.St} {i j : Nat} {v : Option V} {u : Option V} (h : σ[j]? = some u) (n : i ≠ j) : (σ.set i v)[j]? = some u := by
  rw [List.getElem?_set_ne n]
  exact h
section
variable {K : PySem.W.Frag} {P b : Addr} {H : Hp} {σ : L2.St} {Q : VK}
theorem draws_go {m c iM iS : Nat} (e0 : σ[0]? = some (some (.ref b))) (eM : σ[iM]? = some (some (.int (m : Nat)))) (n0 : iS ≠ 0) (nM : iS ≠ iM) (t : GxR.TabG H P) (bx : Box H b) (bP : b ≠ P) (m0 : 0 < m) (m1 : m ≤ 100) (c1 : c ≤ 100)
    (k : ∀ v H' ns, SB P b H H' → ItS (SqT K) H' v (iV ns) → ns.length = c → (∀ x ∈ ns, x < m) → Q v H') :
    tLc (fun σ H R => R (Itr 0 c) H) (gName iS) tYes (tCall spTak [] E0 (tCons (tVar 0) (tCons (tVar iM) tNil))) [iS] σ H (fun x H' => kTup K x H' Q) := by
  intro D hD
  have DP := nPt t hD
  have Db := box_ne bx hD
  refine lc_it (walk_range (lo := 0) (n := c)) (fun i H' => ∃ ns : List Nat, SB P b H H' ∧ H' D = some (.lst (iV ns)) ∧ ns.length = i ∧ ∀ x ∈ ns, x < m) ⟨[], (SB.refl t bx).mut hD DP Db, upd_same, rfl, fun x h => nomatch h⟩ (fun _ _ _ _ => trivial) ?_ ?_
  · rintro i x H2 H1 hi ⟨ns, s1, q1, q2, q3⟩ ⟨rfl, rfl⟩
    refine ⟨by simp [wipe], _, at_set (at_set e0 n0) n0, _, at_set (at_set eM nM) nM, b, (m : Nat), rfl, s1.box, by omega, by omega, fun r r0 r1 g z g0 z0 z1 => ?_⟩
    obtain ⟨u, rfl⟩ : ∃ u : Nat, r = (u : Int) := ⟨r.toNat, by omega⟩
    have s2 : SB P b H1 (upd H1 b (.lst [.int g, .int z])) := SB.draw s1.tab bP g0 z0 z1
    refine ⟨iV ns, s2.keep _ _ DP Db q1, ?_, ns ++ [u], (s1.trans s2).mut hD DP Db, ?_, by rw [List.length_append, q2]; rfl, fun x hx => ?_⟩
    · rw [iV_len]
      exact Nat.lt_of_lt_of_le (by omega : ns.length < 10000) (by decide)
    · rw [upd_same]
      unfold iV
      rw [List.map_append]
      rfl
    · rcases List.mem_append.mp hx with q | q
      · exact q3 x q
      · have : x = u := by simpa using q
        omega
  · rintro H1 ⟨ns, s1, q1, q2, q3⟩
    refine .inl ⟨D, _, rfl, SqL.of q1, fun q hq => ?_⟩
    exact k _ _ ns (s1.trans (SB.sm s1.box s1.tab (Sm.new s1.tab hq))) ⟨q, rfl, .inl (.inl upd_same)⟩ q2 q3
/-- tuple([_law_take(box, m) for .. in range(m)]), box in slot 0 -/
def tDrw (K : PySem.W.Frag) (P : Addr) (iM : Nat) : TE := fun σ H Q => ∃ (b : Addr) (m : Nat), σ[0]? = some (some (.ref b)) ∧ σ[iM]? = some (some (.int (m : Nat))) ∧ GxR.TabG H P ∧ Box H b ∧ b ≠ P ∧ 0 < m ∧ m ≤ 100 ∧
  ∀ v H' ns, SB P b H H' → ItS (SqT K) H' v (iV ns) → ns.length = m → (∀ x ∈ ns, x < m) → Q v H'
theorem rows_go {m c iM iK : Nat} (e0 : σ[0]? = some (some (.ref b))) (eM : σ[iM]? = some (some (.int (m : Nat)))) (n0 : iK ≠ 0) (nM : iK ≠ iM) (t : GxR.TabG H P) (bx : Box H b) (bP : b ≠ P) (m0 : 0 < m) (m1 : m ≤ 100) (c1 : c ≤ 100)
    (k : ∀ q H' xs rs, SB P b H H' → H q = none → H' q = some (.lst xs) → Paired (ItS (SqT K) H') xs (mV rs) → rs.length = c → okMaps rs m → Q (.ref q) H') :
    tLc (fun σ H R => R (Itr 0 c) H) (gName iK) tYes (tDrw K P iM) [iK] σ H Q := by
  intro D hD
  have DP := nPt t hD
  have Db := box_ne bx hD
  refine lc_it (walk_range (lo := 0) (n := c)) (fun i H' => ∃ (xs : List V) (rs : List (List Nat)), SB P b H H' ∧ H' D = some (.lst xs) ∧ xs.length = i ∧ Paired (ItS (SqT K) H') xs (mV rs) ∧ rs.length = i ∧ okMaps rs m) ⟨[], [], (SB.refl t bx).mut hD DP Db, upd_same, rfl, .nil, rfl, fun x h => nomatch h⟩ (fun _ _ _ _ => trivial) ?_ ?_
  · rintro i x H2 H1 hi ⟨xs, rs, s1, q1, q2, q3, q4, q5⟩ ⟨rfl, rfl⟩
    refine ⟨by simp [wipe], b, m, at_set (at_set e0 n0) n0, at_set (at_set eM nM) nM, s1.tab, s1.box, bP, m0, m1, fun v H3 ns s3 hv l1 l2 => ?_⟩
    have q1' := s3.keep _ _ DP Db q1
    have tp : Tp H3 (upd H3 D (.lst (xs ++ [v]))) := Tp.lst q1'
    refine ⟨xs, q1', Nat.lt_of_lt_of_le (by omega : xs.length < 10000) (by decide), xs ++ [v], rs ++ [ns], (s1.trans s3).mut hD DP Db, upd_same, by rw [List.length_append, q2]; rfl, ?_, by rw [List.length_append, q4]; rfl, fun r hr => ?_⟩
    · unfold mV at q3 ⊢
      rw [List.map_append]
      refine paired_append (paired_mono (fun _ _ ⟨a, e, h⟩ => ⟨a, e, ((s3.tp s1.tab s1.box).trans tp).sq h⟩) q3) (.cons ?_ .nil)
      obtain ⟨a, e, h⟩ := hv
      exact ⟨a, e, tp.sq h⟩
    · rcases List.mem_append.mp hr with q | q
      · exact q5 r q
      · have : r = ns := by simpa using q
        rw [this]
        exact ⟨l1, l2⟩
  · rintro H1 ⟨xs, rs, s1, q1, q2, q3, q4, q5⟩
    exact k D H1 xs rs s1 hD q1 q3 q4 q5
end
end K6

set_option Elab.async false
set_option linter.all false
set_option maxRecDepth 100000
set_option maxHeartbeats 4000000
namespace K6
open PySem PySem.Spec PyProof.Rows L2 So
/-! ### rows of drawn answers -/
section
variable {K : PySem.W.Frag} {P b : Addr} {H : Hp} {σ : L2.St} {Q : VK}
theorem bV_length {bs : List Bool} : (bV bs).length = bs.length := List.length_map _
theorem draws_goB {c iS : Nat} (e0 : σ[0]? = some (some (.ref b))) (n0 : iS ≠ 0) (t : GxR.TabG H P) (bx : Box H b) (bP : b ≠ P) (c1 : c ≤ 100)
    (k : ∀ v H' bs, SB P b H H' → ItS (SqT K) H' v (bV bs) → bs.length = c → Q v H') :
    tLc (fun σ H R => R (Itr 0 c) H) (gName iS) tYes (tOp rEq (tCall spTak [] E0 (tCons (tVar 0) (tCons (tC (.int 2)) tNil))) (tC (.int 0))) [iS] σ H (fun x H' => kTup K x H' Q) := by
  intro D hD
  have DP := nPt t hD
  have Db := box_ne bx hD
  refine lc_it (walk_range (lo := 0) (n := c)) (fun i H' => ∃ bs : List Bool, SB P b H H' ∧ H' D = some (.lst (bV bs)) ∧ bs.length = i) ⟨[], (SB.refl t bx).mut hD DP Db, upd_same, rfl⟩ (fun _ _ _ _ => trivial) ?_ ?_
  · rintro i x H2 H1 hi ⟨bs, s1, q1, q2⟩ ⟨rfl, rfl⟩
    refine ⟨by simp [wipe], _, at_set (at_set e0 n0) n0, b, 2, rfl, s1.box, by omega, by omega, fun r r0 r1 g z g0 z0 z1 => ⟨rfl, ?_⟩⟩
    have s2 : SB P b H1 (upd H1 b (.lst [.int g, .int z])) := SB.draw s1.tab bP g0 z0 z1
    refine ⟨bV bs, s2.keep _ _ DP Db q1, ?_, bs ++ [decide (V.int r = V.int 0)], (s1.trans s2).mut hD DP Db, ?_, by rw [List.length_append, q2]; rfl⟩
    · rw [bV_length]
      exact Nat.lt_of_lt_of_le (by omega : bs.length < 10000) (by decide)
    · rw [upd_same]
      unfold bV
      rw [List.map_append]
      rfl
  · rintro H1 ⟨bs, s1, q1, q2⟩
    refine .inl ⟨D, _, rfl, SqL.of q1, fun q hq => ?_⟩
    exact k _ _ bs (s1.trans (SB.sm s1.box s1.tab (Sm.new s1.tab hq))) ⟨q, rfl, .inl (.inl upd_same)⟩ q2
def tDrB (K : PySem.W.Frag) (P : Addr) (iL : Nat) : TE := fun σ H Q => ∃ (b : Addr) (l : Nat), σ[0]? = some (some (.ref b)) ∧ σ[iL]? = some (some (.int (l : Nat))) ∧ GxR.TabG H P ∧ Box H b ∧ b ≠ P ∧ l ≤ 100 ∧
  ∀ v H' bs, SB P b H H' → ItS (SqT K) H' v (bV bs) → bs.length = l → Q v H'
theorem rows_goB {l c iL iK : Nat} (e0 : σ[0]? = some (some (.ref b))) (eL : σ[iL]? = some (some (.int (l : Nat)))) (n0 : iK ≠ 0) (nL : iK ≠ iL) (t : GxR.TabG H P) (bx : Box H b) (bP : b ≠ P) (l1 : l ≤ 100) (c1 : c ≤ 100)
    (k : ∀ q H' xs rs, SB P b H H' → H q = none → H' q = some (.lst xs) → Paired (ItS (SqT K) H') xs (aV rs) → rs.length = c → (∀ r ∈ rs, r.length = l) → Q (.ref q) H') :
    tLc (fun σ H R => R (Itr 0 c) H) (gName iK) tYes (tDrB K P iL) [iK] σ H Q := by
  intro D hD
  have DP := nPt t hD
  have Db := box_ne bx hD
  refine lc_it (walk_range (lo := 0) (n := c)) (fun i H' => ∃ (xs : List V) (rs : List (List Bool)), SB P b H H' ∧ H' D = some (.lst xs) ∧ xs.length = i ∧ Paired (ItS (SqT K) H') xs (aV rs) ∧ rs.length = i ∧ ∀ r ∈ rs, r.length = l) ⟨[], [], (SB.refl t bx).mut hD DP Db, upd_same, rfl, .nil, rfl, fun x h => nomatch h⟩ (fun _ _ _ _ => trivial) ?_ ?_
  · rintro i x H2 H1 hi ⟨xs, rs, s1, q1, q2, q3, q4, q5⟩ ⟨rfl, rfl⟩
    refine ⟨by simp [wipe], b, l, at_set (at_set e0 n0) n0, at_set (at_set eL nL) nL, s1.tab, s1.box, bP, l1, fun v H3 bs s3 hv l1 => ?_⟩
    have q1' := s3.keep _ _ DP Db q1
    have tp : Tp H3 (upd H3 D (.lst (xs ++ [v]))) := Tp.lst q1'
    refine ⟨xs, q1', Nat.lt_of_lt_of_le (by omega : xs.length < 10000) (by decide), xs ++ [v], rs ++ [bs], (s1.trans s3).mut hD DP Db, upd_same, by rw [List.length_append, q2]; rfl, ?_, by rw [List.length_append, q4]; rfl, fun r hr => ?_⟩
    · unfold aV at q3 ⊢
      rw [List.map_append]
      refine paired_append (paired_mono (fun _ _ ⟨a, e, h⟩ => ⟨a, e, ((s3.tp s1.tab s1.box).trans tp).sq h⟩) q3) (.cons ?_ .nil)
      obtain ⟨a, e, h⟩ := hv
      exact ⟨a, e, tp.sq h⟩
    · rcases List.mem_append.mp hr with q | q
      · exact q5 r q
      · have : r = bs := by simpa using q
        rw [this]
        exact l1
  · rintro H1 ⟨xs, rs, s1, q1, q2, q3, q4, q5⟩
    exact k D H1 xs rs s1 hD q1 q3 q4 q5
theorem rng_in {ta : TA} {c : Nat} {g : TG} {tt : TT} {te : TE} {own : List Nat} (hta : ∀ R : List V → Hp → Prop, R [V.int (c : Nat)] H → ta σ H R) (c1 : c ≤ 100) (h : tLc (fun σ H R => R (Itr 0 c) H) g tt te own σ H Q) : tLc (iRng1 ta) g tt te own σ H Q :=
  hta _ ⟨(c : Int), rfl, by omega, by omega, h⟩
theorem asg_name {te : TE} {i : Nat} {u : TS} {D : Ends} (h : te σ H fun x H1 => u D (σ.set i (some x)) H1) : tSeq (tAsg te (gName i)) u D σ H := h
end
end K6

set_option Elab.async false
set_option linter.all false
set_option maxRecDepth 100000
set_option maxHeartbeats 4000000
namespace K6
open PySem PySem.Spec PyProof.Rows L2 So
section
variable {Pg : Program} {w : World} {K : PySem.W.Frag} {mg : Str → Option Value} {base : Heap} {P : Addr}
abbrev sMac : Stmt := top 46
abbrev nMac : List Str := ["box", "tops", "inners", "long", "labels", "texts", "many", "top", "by_text", "by_child", "top_text", "top_child", "answers", "starts", "head", "kind", "state", "child", "word"]
theorem scMac : FnScope nMac ["box", "tops", "inners", "long"] (defScope sMac) := ⟨rfl, rfl, rfl, by decide +kernel, rfl, by decide +kernel, by decide +kernel⟩
def mLs : List (List Str) := [[], ["a"], ["a", "b"], ["b"]]
def mXs : List (List Str) := [[], ["x"], ["x", "y"]]
def spMac (K : PySem.W.Frag) (P : Addr) : Sp := fun vs H Q _ => GxR.TabG H P ∧ ∃ (b : Addr) (tops inners long : Nat), vs = [.ref b, .int (tops : Nat), .int (inners : Nat), .int (long : Nat)] ∧ Box H b ∧ b ≠ P ∧ 0 < tops ∧ tops < 50 ∧ 0 < inners ∧ inners < 50 ∧ 0 < long ∧ long ≤ 8 ∧ ∀ v H' M, SB P b H H' → McS (SqT K) H' v M → M.ok → M.L ∈ mLs → M.X ∈ mXs → Q v H'
abbrev kSc (own m : Str) : Scope := { kind := ScopeKind.function, names := [(".0", NameKind.local), (own, NameKind.local), ("tuple", NameKind.globalImplicit), ("range", NameKind.globalImplicit), ("box", NameKind.cell), (m, NameKind.cell)], isGenerator := false, isCoroutine := false }
theorem Tp.it {K : PySem.W.Frag} {H H1 : Hp} {v : V} {ys : List V} (s : Tp H H1) (h : ItS (SqT K) H v ys) : ItS (SqT K) H1 v ys := by
  obtain ⟨a, e, h⟩ := h
  exact ⟨a, e, s.sq h⟩
theorem ok_mac {f fT fP : Addr} {fd fdT fdP : FuncData} (F : Fun K "_law_machine" "_law_machine" sMac f fd) (T : Ty K mg) (Tk : Df K mg "_law_take" sTak ["box", "many"] fT fdT) (Pk : Df K mg "_law_pick" sPck ["box", "some"] fP fdP) :
    FnOk Pg w K mg base CX0 3 f fd ["box", "tops", "inners", "long"] (spMac K P) := by
  have GT : FnOk Pg w K mg base CX0 1 fT fdT ["box", "many"] spTak := ok_tak Tk.F T.T
  have GP : FnOk Pg w K mg base CX0 2 fP fdP ["box", "some"] spPck := ok_pck Pk.F T.T Tk
  refine F.ok scMac (fun vs H Q E h => ?_) (fun cdv A' outer s H vs Q E hr h => ?_)
  · obtain ⟨_, _, _, _, _, rfl, _⟩ := h
    rfl
  · obtain ⟨t, b, tops, inners, long, rfl, bx, bP, p1, p2, p3, p4, p5, p6, kont⟩ := h
    have r1 : Room 1 _ := hr.mono (by omega)
    have r2 : Room 2 _ := hr.mono (by omega)
    refine ⟨_, (pss_cons (ps_par (i := 4) (j := 5) rfl scMac.nd rfl rfl (by decide) rfl rfl (pa_cons (pe_call GP r2 (by rfl) Pk.g Pk.F.kp Pk.b .nil pass0 (pa_cons (pv 0) (pa_cons (pe_lst (pa_cons (pe_tup pa_nil) (pa_cons (pe_tup (pa_cons pe_str pa_nil)) (pa_cons (pe_tup (pa_cons pe_str (pa_cons pe_str pa_nil))) (pa_cons (pe_tup (pa_cons pe_str pa_nil)) pa_nil))))) pa_nil))) (pa_cons (pe_call GP r2 (by rfl) Pk.g Pk.F.kp Pk.b .nil pass0 (pa_cons (pv 0) (pa_cons (pe_lst (pa_cons (pe_tup pa_nil) (pa_cons (pe_tup (pa_cons pe_str pa_nil)) (pa_cons (pe_tup (pa_cons pe_str (pa_cons pe_str pa_nil))) pa_nil)))) pa_nil))) pa_nil)) (by rfl))
      (pss_cons (ps_asg (pe_tup (pa_cons (pe_op op_add pe_int (pe_call GT r1 (by rfl) Tk.g Tk.F.kp Tk.b .nil pass0 (pa_cons (pv 0) (pa_cons (pv 2) pa_nil)))) (pa_cons (pe_op op_add pe_int (pe_call GT r1 (by rfl) Tk.g Tk.F.kp Tk.b .nil pass0 (pa_cons (pv 0) (pa_cons (pv 1) pa_nil)))) pa_nil))) (pg_tup rfl (pgs_cons (pg_name (i := 6) scMac.nd rfl (.inr rfl)) (pgs_cons (pg_name (i := 7) scMac.nd rfl (.inr rfl)) pgs_nil))))
      (pss_cons (ps_setLc (i := 8) (own := [("kind", 15)]) (g := gName 15) (tt := tYes) rfl scMac.nd rfl rfl (sw_true rfl rfl rfl (by decide +kernel)) (pi_range1 (by rfl) T.T.range (pa_cons (pe_op op_add (pe_callB call_len_seq (by rfl) T.T.len (by decide +kernel) (pa_cons (pv 5) pa_nil)) pe_int) pa_nil)) (blkOk_by (N := nMac) (sc := defScope sMac) (by decide +kernel)) (fun _ _ _ _ _ => pg_name (i := 15) scMac.nd rfl (Or.inl rfl)) (fun _ _ _ _ _ => pts_nil) (fun _ _ _ _ _ => (pe_weak (t' := tDrw K P 6) (pe_tupleOf (by rfl) T.T.tuple (pe_lc (own := [("state", 16)]) (g := gName 16) (tt := tYes) rfl scMac.nd (pi_range1 (by rfl) T.T.range (pa_cons (pv 6) pa_nil)) (blkOk_by (N := nMac) (sc := kSc "kind" "many") (by decide +kernel)) (fun _ _ _ _ _ => pg_name (i := 16) scMac.nd rfl (Or.inl rfl)) (fun _ _ _ _ _ => pts_nil) (fun _ _ _ _ _ => (pe_call GT r1 (by rfl) Tk.g Tk.F.kp Tk.b .nil pass0 (pa_cons (pv 0) (pa_cons (pv 6) pa_nil)))))) (by rintro σ H Q ⟨b, m, e0, eM, t, bx, bP, m0, m1, k⟩; exact ⟨_, eM, (m : Int), rfl, by omega, by omega, draws_go e0 eM (by decide) (by decide) t bx bP m0 m1 m1 k⟩))))
      (pss_cons (ps_setLc (i := 9) (own := [("child", 17)]) (g := gName 17) (tt := tYes) rfl scMac.nd rfl rfl (sw_true rfl rfl rfl (by decide +kernel)) (pi_range1 (by rfl) T.T.range (pa_cons (pv 6) pa_nil)) (blkOk_by (N := nMac) (sc := defScope sMac) (by decide +kernel)) (fun _ _ _ _ _ => pg_name (i := 17) scMac.nd rfl (Or.inl rfl)) (fun _ _ _ _ _ => pts_nil) (fun _ _ _ _ _ => (pe_weak (t' := tDrw K P 6) (pe_tupleOf (by rfl) T.T.tuple (pe_lc (own := [("state", 16)]) (g := gName 16) (tt := tYes) rfl scMac.nd (pi_range1 (by rfl) T.T.range (pa_cons (pv 6) pa_nil)) (blkOk_by (N := nMac) (sc := kSc "child" "many") (by decide +kernel)) (fun _ _ _ _ _ => pg_name (i := 16) scMac.nd rfl (Or.inl rfl)) (fun _ _ _ _ _ => pts_nil) (fun _ _ _ _ _ => (pe_call GT r1 (by rfl) Tk.g Tk.F.kp Tk.b .nil pass0 (pa_cons (pv 0) (pa_cons (pv 6) pa_nil)))))) (by rintro σ H Q ⟨b, m, e0, eM, t, bx, bP, m0, m1, k⟩; exact ⟨_, eM, (m : Int), rfl, by omega, by omega, draws_go e0 eM (by decide) (by decide) t bx bP m0 m1 m1 k⟩))))
      (pss_cons (ps_setLc (i := 10) (own := [("kind", 15)]) (g := gName 15) (tt := tYes) rfl scMac.nd rfl rfl (sw_true rfl rfl rfl (by decide +kernel)) (pi_range1 (by rfl) T.T.range (pa_cons (pe_op op_add (pe_callB call_len_seq (by rfl) T.T.len (by decide +kernel) (pa_cons (pv 5) pa_nil)) pe_int) pa_nil)) (blkOk_by (N := nMac) (sc := defScope sMac) (by decide +kernel)) (fun _ _ _ _ _ => pg_name (i := 15) scMac.nd rfl (Or.inl rfl)) (fun _ _ _ _ _ => pts_nil) (fun _ _ _ _ _ => (pe_weak (t' := tDrw K P 7) (pe_tupleOf (by rfl) T.T.tuple (pe_lc (own := [("state", 16)]) (g := gName 16) (tt := tYes) rfl scMac.nd (pi_range1 (by rfl) T.T.range (pa_cons (pv 7) pa_nil)) (blkOk_by (N := nMac) (sc := kSc "kind" "top") (by decide +kernel)) (fun _ _ _ _ _ => pg_name (i := 16) scMac.nd rfl (Or.inl rfl)) (fun _ _ _ _ _ => pts_nil) (fun _ _ _ _ _ => (pe_call GT r1 (by rfl) Tk.g Tk.F.kp Tk.b .nil pass0 (pa_cons (pv 0) (pa_cons (pv 7) pa_nil)))))) (by rintro σ H Q ⟨b, m, e0, eM, t, bx, bP, m0, m1, k⟩; exact ⟨_, eM, (m : Int), rfl, by omega, by omega, draws_go e0 eM (by decide) (by decide) t bx bP m0 m1 m1 k⟩))))
      (pss_cons (ps_setLc (i := 11) (own := [("child", 17)]) (g := gName 17) (tt := tYes) rfl scMac.nd rfl rfl (sw_true rfl rfl rfl (by decide +kernel)) (pi_range1 (by rfl) T.T.range (pa_cons (pv 6) pa_nil)) (blkOk_by (N := nMac) (sc := defScope sMac) (by decide +kernel)) (fun _ _ _ _ _ => pg_name (i := 17) scMac.nd rfl (Or.inl rfl)) (fun _ _ _ _ _ => pts_nil) (fun _ _ _ _ _ => (pe_weak (t' := tDrw K P 7) (pe_tupleOf (by rfl) T.T.tuple (pe_lc (own := [("state", 16)]) (g := gName 16) (tt := tYes) rfl scMac.nd (pi_range1 (by rfl) T.T.range (pa_cons (pv 7) pa_nil)) (blkOk_by (N := nMac) (sc := kSc "child" "top") (by decide +kernel)) (fun _ _ _ _ _ => pg_name (i := 16) scMac.nd rfl (Or.inl rfl)) (fun _ _ _ _ _ => pts_nil) (fun _ _ _ _ _ => (pe_call GT r1 (by rfl) Tk.g Tk.F.kp Tk.b .nil pass0 (pa_cons (pv 0) (pa_cons (pv 7) pa_nil)))))) (by rintro σ H Q ⟨b, m, e0, eM, t, bx, bP, m0, m1, k⟩; exact ⟨_, eM, (m : Int), rfl, by omega, by omega, draws_go e0 eM (by decide) (by decide) t bx bP m0 m1 m1 k⟩))))
      (pss_cons (ps_setLc (i := 12) (own := [("state", 16)]) (g := gName 16) (tt := tYes) rfl scMac.nd rfl rfl (sw_true rfl rfl rfl (by decide +kernel)) (pi_range1 (by rfl) T.T.range (pa_cons (pv 7) pa_nil)) (blkOk_by (N := nMac) (sc := defScope sMac) (by decide +kernel)) (fun _ _ _ _ _ => pg_name (i := 16) scMac.nd rfl (Or.inl rfl)) (fun _ _ _ _ _ => pts_nil) (fun _ _ _ _ _ => (pe_weak (t' := tDrB K P 3) (pe_tupleOf (by rfl) T.T.tuple (pe_lc (own := [("word", 18)]) (g := gName 18) (tt := tYes) rfl scMac.nd (pi_range1 (by rfl) T.T.range (pa_cons (pv 3) pa_nil)) (blkOk_by (N := nMac) (sc := kSc "state" "long") (by decide +kernel)) (fun _ _ _ _ _ => pg_name (i := 18) scMac.nd rfl (Or.inl rfl)) (fun _ _ _ _ _ => pts_nil) (fun _ _ _ _ _ => (pe_cmpR op_eq (pe_call GT r1 (by rfl) Tk.g Tk.F.kp Tk.b .nil pass0 (pa_cons (pv 0) (pa_cons pe_int pa_nil))) pe_int (nomark _))))) (by rintro σ H Q ⟨b, m, e0, eM, t, bx, bP, m1, k⟩; exact ⟨_, eM, (m : Int), rfl, by omega, by omega, draws_goB e0 (by decide) t bx bP m1 k⟩))))
      (pss_cons (ps_set (i := 13) scMac.nd rfl (Or.inl rfl) (pe_tupleOf (by rfl) T.T.tuple (pe_lc (own := [("kind", 15)]) (g := gName 15) (tt := tYes) rfl scMac.nd (pi_range1 (by rfl) T.T.range (pa_cons (pe_op op_add (pe_callB call_len_seq (by rfl) T.T.len (by decide +kernel) (pa_cons (pv 4) pa_nil)) pe_int) pa_nil)) (blkOk_by (N := nMac) (sc := defScope sMac) (by decide +kernel)) (fun _ _ _ _ _ => pg_name (i := 15) scMac.nd rfl (Or.inl rfl)) (fun _ _ _ _ _ => pts_nil) (fun _ _ _ _ _ => (pe_call GT r1 (by rfl) Tk.g Tk.F.kp Tk.b .nil pass0 (pa_cons (pv 0) (pa_cons (pv 6) pa_nil)))))))
      (pss_cons (ps_set (i := 14) scMac.nd rfl (Or.inl rfl) (pe_tup (pa_cons (pv 7) (pa_cons (pe_call GT r1 (by rfl) Tk.g Tk.F.kp Tk.b .nil pass0 (pa_cons (pv 0) (pa_cons (pv 7) pa_nil))) (pa_cons (pe_tupleOf (by rfl) T.T.tuple (pv 10)) (pa_cons (pe_tupleOf (by rfl) T.T.tuple (pv 11)) (pa_cons (pe_tupleOf (by rfl) T.T.tuple (pv 12)) pa_nil)))))))
      (pss_one (ps_ret (pe_tup (pa_cons (pv 4) (pa_cons (pv 5) (pa_cons (pv 14) (pa_cons (pe_tup (pa_cons (pv 6) (pa_cons (pv 13) (pa_cons (pe_tupleOf (by rfl) T.T.tuple (pv 8)) (pa_cons (pe_tupleOf (by rfl) T.T.tuple (pv 9)) pa_nil))))) pa_nil)))))))))))))))), ?_⟩
    refine ⟨_, rfl, (by decide), fun q0 h0 => ⟨(by decide), fun q1 h1 => ⟨(by decide), fun q2 h2 => ⟨(by decide), fun q3 h3 => ⟨(by show 4 ≤ sizeLine; decide), fun l hl => ?_⟩⟩⟩⟩⟩
    have s0 := Sm.new (o := .tup []) t h0
    have s1 := Sm.new (o := .tup (sV ["a"])) s0.2 h1
    have s2 := Sm.new (o := .tup (sV ["a", "b"])) s1.2 h2
    have s3 := Sm.new (o := .tup (sV ["b"])) s2.2 h3
    have s4 := Sm.new (o := .lst [.ref q0, .ref q1, .ref q2, .ref q3]) s3.2 hl
    have b3 := SB.sm bx t (((s0.trans s1).trans s2).trans s3)
    have b4 := b3.trans (SB.sm b3.box b3.tab s4)
    refine ⟨b, l, [.ref q0, .ref q1, .ref q2, .ref q3], rfl, b4.box, upd_same, box_ne b3.box hl, (by show 0 < 4; decide), (by show 4 < 1000; decide), fun j v hv g z g0 z0 z1 => ?_⟩
    have d5 := SB.draw b4.tab bP g0 z0 z1
    have b5 := b4.trans d5
    obtain ⟨L, okL, mL, iL⟩ : ∃ L, okLabs L = true ∧ L ∈ mLs ∧ ItS (SqT K) _ v (sV L) := by
      have d := d5.tp b4.tab b4.box
      match j, hv with
      | 0, hv => cases hv; exact ⟨[], by decide +kernel, by simp [mLs, mXs], q0, rfl, d.sq (s4.tup s3.2 (s3.tup s2.2 (s2.tup s1.2 (s1.tup s0.2 (.inl (.inl upd_same))))))⟩
      | 1, hv => cases hv; exact ⟨["a"], by decide +kernel, by simp [mLs, mXs], q1, rfl, d.sq (s4.tup s3.2 (s3.tup s2.2 (s2.tup s1.2 (.inl (.inl upd_same)))))⟩
      | 2, hv => cases hv; exact ⟨["a", "b"], by decide +kernel, by simp [mLs, mXs], q2, rfl, d.sq (s4.tup s3.2 (s3.tup s2.2 (.inl (.inl upd_same))))⟩
      | 3, hv => cases hv; exact ⟨["b"], by decide +kernel, by simp [mLs, mXs], q3, rfl, d.sq (s4.tup s3.2 (.inl (.inl upd_same)))⟩
      | j + 4, hv => cases hv
    clear hv d5 h0 h1 h2 h3 hl s0 s1 s2 s3 s4 b3 b4
    refine ⟨_, rfl, (by decide), fun q0 h0 => ⟨(by decide), fun q1 h1 => ⟨(by decide), fun q2 h2 => ⟨(by show 3 ≤ sizeLine; decide), fun l hl => ?_⟩⟩⟩⟩
    have s0 := Sm.new (o := .tup []) b5.tab h0
    have s1 := Sm.new (o := .tup (sV ["x"])) s0.2 h1
    have s2 := Sm.new (o := .tup (sV ["x", "y"])) s1.2 h2
    have s3 := Sm.new (o := .lst [.ref q0, .ref q1, .ref q2]) s2.2 hl
    have b6 := SB.sm b5.box b5.tab ((s0.trans s1).trans s2)
    have b7 := b6.trans (SB.sm b6.box b6.tab s3)
    refine ⟨b, l, [.ref q0, .ref q1, .ref q2], rfl, b7.box, upd_same, box_ne b6.box hl, (by show 0 < 3; decide), (by show 3 < 1000; decide), fun j w hv g z g0 z0 z1 => ?_⟩
    have d5 := SB.draw b7.tab bP g0 z0 z1
    have b8 := b7.trans d5
    have iL := (b8.tp b5.tab b5.box).it iL
    obtain ⟨X, okX, mX, iX⟩ : ∃ X, okTxs X = true ∧ X ∈ mXs ∧ ItS (SqT K) _ w (sV X) := by
      have d := d5.tp b7.tab b7.box
      match j, hv with
      | 0, hv => cases hv; exact ⟨[], by decide +kernel, by simp [mLs, mXs], q0, rfl, d.sq (s3.tup s2.2 (s2.tup s1.2 (s1.tup s0.2 (.inl (.inl upd_same)))))⟩
      | 1, hv => cases hv; exact ⟨["x"], by decide +kernel, by simp [mLs, mXs], q1, rfl, d.sq (s3.tup s2.2 (s2.tup s1.2 (.inl (.inl upd_same))))⟩
      | 2, hv => cases hv; exact ⟨["x", "y"], by decide +kernel, by simp [mLs, mXs], q2, rfl, d.sq (s3.tup s2.2 (.inl (.inl upd_same)))⟩
      | j + 3, hv => cases hv
    have c8 := b5.trans b8
    clear hv d5 h0 h1 h2 hl s0 s1 s2 s3 b6 b7 b8
    refine ⟨_, _, rfl, ?_⟩
    generalize e8 : upd _ b (HO.lst [V.int g, V.int z]) = H8
    have c8 : SB P b H H8 := by rw [← e8]; exact c8
    have iL : ItS (SqT K) H8 v (sV L) := by rw [← e8]; exact iL
    have iX : ItS (SqT K) H8 w (sV X) := by rw [← e8]; exact iX
    clear e8
    obtain ⟨aX, rfl, hX⟩ := iX
    obtain ⟨aL, rfl, hL⟩ := iL
    have t8 := c8.tab
    have bx8 := c8.box
    refine ⟨_, rfl, _, rfl, b, (inners : Int), rfl, bx8, by omega, by omega, fun r r0 r1 g z g0 z0 z1 => ⟨_, _, rfl, rfl, _, rfl, _, rfl, b, (tops : Int), rfl, (SB.draw t8 bP g0 z0 z1).box, by omega, by omega, fun u u0 u1 g' z' g0' z0' z1' => ⟨_, _, rfl, rfl, (by show 2 ≤ sizeLine; decide), fun q hq => ?_⟩⟩⟩
    have s1 := SB.draw t8 bP g0 z0 z1
    have s2 := s1.trans (SB.draw s1.tab bP g0' z0' z1')
    have s3 := s2.trans (SB.sm s2.box s2.tab (Sm.new (o := .tup [.int (1 + r), .int (1 + u)]) s2.tab hq))
    obtain ⟨m, hm, m0, m1⟩ : ∃ m : Nat, 1 + r = (m : Int) ∧ 0 < m ∧ m ≤ 50 := ⟨(1 + r).toNat, by omega, by omega, by omega⟩
    obtain ⟨n, hn, n0, n1⟩ : ∃ n : Nat, 1 + u = (n : Int) ∧ 0 < n ∧ n ≤ 50 := ⟨(1 + u).toNat, by omega, by omega, by omega⟩
    refine ⟨q, [.int (1 + r), .int (1 + u)], rfl, .inl (.inl upd_same), rfl, ?_⟩
    rw [hm, hn]
    generalize e9 : upd _ q _ = H9
    have c9 : SB P b H H9 := by rw [← e9]; exact c8.trans s3
    have hX : SqT K H9 aX (sV X) := by rw [← e9]; exact (s3.tp t8 bx8).sq hX
    have hL : SqT K H9 aL (sV L) := by rw [← e9]; exact (s3.tp t8 bx8).sq hL
    clear e9 s1 s2 s3 hq t8 bx8 c8
    have t9 := c9.tab
    have bx9 := c9.box
    refine ⟨_, _, rfl, _, _, rfl, rfl, ?_⟩
    have lx : (sV X).length ≤ 4 := by
      have := okX
      unfold okTxs at this
      simp only [Bool.and_eq_true, decide_eq_true_eq] at this
      unfold sV
      rw [List.length_map]
      exact this.1.1
    have ll : (sV L).length ≤ 6 := by
      have := okL
      unfold okLabs at this
      simp only [Bool.and_eq_true, decide_eq_true_eq] at this
      unfold sV
      rw [List.length_map]
      exact this.1.1
    dsimp only
    refine asg_name ?_
    refine rng_in (c := (sV X).length + 1) ?_ (by omega) ?_
    · exact fun R hR => ⟨_, rfl, aX, _, rfl, .inr hX, _, _, rfl, rfl, hR⟩
    refine rows_go (m := m) rfl rfl (by decide) (by decide) t9 bx9 bP m0 (by omega) (by omega) fun q1 H10 xs1 rs1 s10 n1' e10 p10 l10 o10 => ?_
    have c10 := c9.trans s10
    refine asg_name ?_
    refine rng_in (c := m) ?_ (by omega) ?_
    · exact fun R hR => ⟨_, rfl, hR⟩
    refine rows_go (m := m) rfl rfl (by decide) (by decide) c10.tab c10.box bP m0 (by omega) (by omega) fun q2 H11 xs2 rs2 s11 n2' e11 p11 l11 o11 => ?_
    have c11 := c10.trans s11
    refine asg_name ?_
    refine rng_in (c := (sV X).length + 1) ?_ (by omega) ?_
    · exact fun R hR => ⟨_, rfl, aX, _, rfl, .inr (((s10.trans s11).tp t9 bx9).sq hX), _, _, rfl, rfl, hR⟩
    refine rows_go (m := n) rfl rfl (by decide) (by decide) c11.tab c11.box bP n0 (by omega) (by omega) fun q3 H12 xs3 rs3 s12 n3' e12 p12 l12 o12 => ?_
    have c12 := c11.trans s12
    refine asg_name ?_
    refine rng_in (c := m) ?_ (by omega) ?_
    · exact fun R hR => ⟨_, rfl, hR⟩
    refine rows_go (m := n) rfl rfl (by decide) (by decide) c12.tab c12.box bP n0 (by omega) (by omega) fun q4 H13 xs4 rs4 s13 n4' e13 p13 l13 o13 => ?_
    have c13 := c12.trans s13
    refine asg_name ?_
    refine rng_in (c := n) ?_ (by omega) ?_
    · exact fun R hR => ⟨_, rfl, hR⟩
    refine rows_goB (l := long) rfl rfl (by decide) (by decide) c13.tab c13.box bP (by omega) (by omega) fun q5 H14 xs5 rs5 s14 n5' e14 p14 l14 o14 => ?_
    have c14 := c13.trans s14
    have s9 := (((s10.trans s11).trans s12).trans s13).trans s14
    refine asg_name ?_
    refine rng_in (c := (sV L).length + 1) ?_ (by omega) ?_
    · exact fun R hR => ⟨_, rfl, aL, _, rfl, .inr ((s9.tp t9 bx9).sq hL), _, _, rfl, rfl, hR⟩
    refine draws_go (m := m) rfl rfl (by decide) (by decide) c14.tab c14.box bP m0 (by omega) (by omega) fun v6 H15 ns s15 h15 l15 o15 => ?_
    have c15 := c14.trans s15
    refine asg_name ?_
    refine ⟨_, rfl, _, rfl, _, rfl, b, (n : Int), rfl, c15.box, by omega, by omega, fun u2 u20 u21 g2 z2 g20 z20 z21 => ?_⟩
    have s16 := SB.draw c15.tab bP g20 z20 z21
    generalize e16 : upd H15 b (HO.lst [V.int g2, V.int z2]) = H16 at s16 ⊢
    obtain ⟨st, rfl⟩ : ∃ st : Nat, u2 = (st : Int) := ⟨u2.toNat, by omega⟩
    have c16 := c15.trans s16
    have k5 : H16 q5 = some (.lst xs5) := (s15.trans s16).keep _ _ (nPt c13.tab n5') (box_ne c13.box n5') e14
    have k4 : H16 q4 = some (.lst xs4) := (s14.trans (s15.trans s16)).keep _ _ (nPt c12.tab n4') (box_ne c12.box n4') e13
    have k3 : H16 q3 = some (.lst xs3) := (s13.trans (s14.trans (s15.trans s16))).keep _ _ (nPt c11.tab n3') (box_ne c11.box n3') e12
    have k2 : H16 q2 = some (.lst xs2) := (s12.trans (s13.trans (s14.trans (s15.trans s16)))).keep _ _ (nPt c10.tab n2') (box_ne c10.box n2') e11
    have k1 : H16 q1 = some (.lst xs1) := (s11.trans (s12.trans (s13.trans (s14.trans (s15.trans s16))))).keep _ _ (nPt t9 n1') (box_ne bx9 n1') e10
    refine ⟨_, rfl, tup_sq c16.tab (.inr (SqL.of k3)) fun y3 H17 m17 h17 => ⟨_, rfl, tup_sq m17.2 (.inr (SqL.of (m17.1 _ _ (nPt c12.tab n4') k4))) fun y4 H18 m18 h18 => ⟨_, rfl, tup_sq m18.2 (.inr (SqL.of ((m17.trans m18).1 _ _ (nPt c13.tab n5') k5))) fun y5 H19 m19 h19 => ⟨(by show 5 ≤ sizeLine; decide), fun hd hhd => ?_⟩⟩⟩⟩
    have m20 := Sm.new (o := .tup [.int (n : Nat), .int (st : Nat), .ref y3, .ref y4, .ref y5]) m19.2 hhd
    have h20 : SqT K (upd H19 hd (.tup [.int (n : Nat), .int (st : Nat), .ref y3, .ref y4, .ref y5])) hd [.int (n : Nat), .int (st : Nat), .ref y3, .ref y4, .ref y5] := .inl (.inl upd_same)
    generalize e20 : upd H19 hd (.tup [.int (n : Nat), .int (st : Nat), .ref y3, .ref y4, .ref y5]) = H20 at m20 h20 ⊢
    have m16 : Sm P H16 H20 := ((m17.trans m18).trans m19).trans m20
    refine ⟨_, rfl, _, rfl, _, rfl, _, rfl, _, rfl, _, rfl, tup_sq m20.2 (.inr (SqL.of (m16.1 _ _ (nPt t9 n1') k1))) fun y1 H21 m21 h21 => ⟨_, rfl, tup_sq m21.2 (.inr (SqL.of ((m16.trans m21).1 _ _ (nPt c10.tab n2') k2))) fun y2 H22 m22 h22 => ⟨(by show 4 ≤ sizeLine; decide), fun qi hqi => ⟨(by show 4 ≤ sizeLine; decide), fun qm hqm => ?_⟩⟩⟩⟩
    have m23 := Sm.new (o := .tup [.int (m : Nat), v6, .ref y1, .ref y2]) m22.2 hqi
    have m24 := Sm.new (o := .tup [.ref aL, .ref aX, .ref hd, .ref qi]) m23.2 hqm
    have h24 : SqT K (upd (upd H22 qi (.tup [.int (m : Nat), v6, .ref y1, .ref y2])) qm (.tup [.ref aL, .ref aX, .ref hd, .ref qi])) qm [.ref aL, .ref aX, .ref hd, .ref qi] := .inl (.inl upd_same)
    have h23 : SqT K (upd (upd H22 qi (.tup [.int (m : Nat), v6, .ref y1, .ref y2])) qm (.tup [.ref aL, .ref aX, .ref hd, .ref qi])) qi [.int (m : Nat), v6, .ref y1, .ref y2] := m24.tup m23.2 (.inl (.inl upd_same))
    have mF := (((m16.trans m21).trans m22).trans m23).trans m24
    have sF := s16.trans (SB.sm s16.box s16.tab mF)
    have d22 := (m23.trans m24).tup m22.2 h22
    have d21 := ((m22.trans m23).trans m24).tup m21.2 h21
    have d20 := (((m21.trans m22).trans m23).trans m24).tup m20.2 h20
    have d19 := ((((m20.trans m21).trans m22).trans m23).trans m24).tup m19.2 h19
    have d18 := (((((m19.trans m20).trans m21).trans m22).trans m23).trans m24).tup m18.2 h18
    have d17 := ((((((m18.trans m19).trans m20).trans m21).trans m22).trans m23).trans m24).tup m17.2 h17
    have f14 := s15.trans sF
    have f13 := s14.trans f14
    have f12 := s13.trans f13
    have f11 := s12.trans f12
    have f10 := s11.trans f11
    have f9 := s10.trans f10
    have lift : ∀ {H1 H2 : Hp} {xs : List V} {yss : List (List V)}, Tp H1 H2 → Paired (ItS (SqT K) H1) xs yss → Paired (ItS (SqT K) H2) xs yss := fun tp p => paired_mono (fun _ _ h => tp.it h) p
    have e1 : (sV X).length = X.length := by unfold sV; rw [List.length_map]
    have e2 : (sV L).length = L.length := by unfold sV; rw [List.length_map]
    refine kont (.ref qm) _ ⟨L, X, ⟨n, st, rs3, rs4, rs5⟩, ⟨m, ns, rs1, rs2⟩⟩ (c9.trans f9) ?_ ?_ mL mX
    · exact ⟨qm, _, _, _, _, rfl, h24, ⟨aL, rfl, (f9.tp t9 bx9).sq hL⟩, ⟨aX, rfl, (f9.tp t9 bx9).sq hX⟩,
        ⟨hd, _, _, _, rfl, d20, ⟨y3, xs3, rfl, d17, lift (f12.tp c12.tab c12.box) p12⟩, ⟨y4, xs4, rfl, d18, lift (f13.tp c13.tab c13.box) p13⟩, ⟨y5, xs5, rfl, d19, lift (f14.tp c14.tab c14.box) p14⟩⟩,
        ⟨qi, _, _, _, rfl, h23, (sF.tp c15.tab c15.box).it h15, ⟨y1, xs1, rfl, d21, lift (f10.tp c10.tab c10.box) p10⟩, ⟨y2, xs2, rfl, d22, lift (f11.tp c11.tab c11.box) p11⟩⟩⟩
    · exact ⟨okL, okX, ⟨m0, by show m ≤ 200; omega, by show ns.length = L.length + 1; omega, o15, by show rs1.length = X.length + 1; omega, o10, l11, o11⟩,
        ⟨n0, by show n ≤ 200; omega, by show st < n; omega, by show rs3.length = X.length + 1; omega, o12, l13, o13, l14, long, (fun e => by have e : rs5 = [] := e; rw [e] at l14; exact absurd l14 (by show ¬ 0 = n; omega)), by show rs5.length ≤ 200; omega, p5, p6, o14⟩⟩
end
end K6

set_option Elab.async false
set_option linter.all false
set_option maxRecDepth 100000
set_option maxHeartbeats 4000000
namespace K6
open PySem PySem.Spec PyProof.Rows L2 So
/-! ### tuples handed on as lists -/
mutual
def lsD : PyData → PyData
  | .tuple ds => .list (lsDs ds)
  | .list ds => .list ds
  | .none => .none
  | .bool b => .bool b
  | .int i => .int i
  | .str x => .str x
  | .dict d => .dict d
def lsDs : List PyData → List PyData
  | [] => []
  | d :: ds => lsD d :: lsDs ds
end
theorem lsDs_app : ∀ (a b : List PyData), lsDs (a ++ b) = lsDs a ++ lsDs b
  | [], b => by simp only [lsDs, List.nil_append]
  | d :: a, b => by
    simp only [List.cons_append, lsDs]
    rw [lsDs_app a b]
def okT : Nat → PyData → Bool
  | 0, _ => false
  | _ + 1, .int _ => true
  | _ + 1, .bool _ => true
  | _ + 1, .str _ => true
  | h + 1, .tuple ds => decide (ds.length ≤ 1000) && ds.all (okT h)
  | _ + 1, _ => false
/-- what is new in H' beside H -/
def nw (H H' : Hp) : Hp := fun b => if H b = none then H' b else none
/-- .. but at D -/
def nwD (H : Hp) (D : Addr) (H' : Hp) : Hp := fun b => if H b = none ∧ b ≠ D then H' b else none
theorem sqL_sub {K : PySem.W.Frag} {H H' : Hp} {a : Addr} {xs : List V} (s : ∀ b o, H b = some o → H' b = some o) (h : SqL K H a xs) : SqL K H' a xs := by
  rcases h with (h | ⟨o, h⟩) | h
  · exact .inl (.inl (s _ _ h))
  · exact .inl (.inr ⟨o, s _ _ h⟩)
  · exact .inr h
theorem sqT_sub {K : PySem.W.Frag} {H H' : Hp} {a : Addr} {xs : List V} (s : ∀ b o, H b = some o → H' b = some o) (h : SqT K H a xs) : SqT K H' a xs := by
  rcases h with (h | ⟨o, h⟩) | h
  · exact .inl (.inl (s _ _ h))
  · exact .inl (.inr ⟨o, s _ _ h⟩)
  · exact .inr h
mutual
theorem dp_sub {K : PySem.W.Frag} {H H' : Hp} (s : ∀ b o, H b = some o → H' b = some o) : ∀ (d : PyData) (v : V), Dp K H v d → Dp K H' v d
  | .none, _, h => by cases h; exact .non
  | .bool b, _, h => by cases h; exact .bl _
  | .int i, _, h => by cases h; exact .int _
  | .str x, _, h => by cases h; exact .str _
  | .list ds, _, h => by
    cases h with
    | lst h a => exact .lst (sqL_sub s h) (dps_sub s ds _ a)
  | .tuple ds, _, h => by
    cases h with
    | tup h a => exact .tup (sqT_sub s h) (dps_sub s ds _ a)
  | .dict _, _, h => by cases h
theorem dps_sub {K : PySem.W.Frag} {H H' : Hp} (s : ∀ b o, H b = some o → H' b = some o) : ∀ (ds : List PyData) (vs : List V), DpAll K H vs ds → DpAll K H' vs ds
  | [], _, h => by cases h; exact .nil
  | d :: ds, _, h => by
    cases h with
    | cons h1 h2 => exact .cons (dp_sub s d _ h1) (dps_sub s ds _ h2)
end
theorem nw_sub {H H' : Hp} : ∀ b o, nw H H' b = some o → H' b = some o := fun b o h => by
  unfold nw at h
  split at h
  · exact h
  · cases h
theorem dps_at {K : PySem.W.Frag} {H : Hp} : ∀ {xs : List V} {ds : List PyData} {i : Nat} {x : V}, DpAll K H xs ds → xs[i]? = some x → ∃ d, ds[i]? = some d ∧ Dp K H x d
  | _, _, i, x, .nil, e => by simp at e
  | _, _, 0, x, .cons h _, e => by
    cases e
    exact ⟨_, rfl, h⟩
  | _, _, i + 1, x, .cons _ h, e => by
    obtain ⟨d, h1, h2⟩ := dps_at (i := i) h (by simpa using e)
    exact ⟨d, by simpa using h1, h2⟩
theorem dps_len {K : PySem.W.Frag} {H : Hp} : ∀ {xs : List V} {ds : List PyData}, DpAll K H xs ds → xs.length = ds.length
  | _, _, .nil => rfl
  | _, _, .cons _ h => by
    rw [List.length_cons, List.length_cons, dps_len h]
theorem dps_app {K : PySem.W.Frag} {H : Hp} : ∀ {xs ys : List V} {ds es : List PyData}, DpAll K H xs ds → DpAll K H ys es → DpAll K H (xs ++ ys) (ds ++ es)
  | _, _, _, _, .nil, h => h
  | _, _, _, _, .cons a b, h => .cons a (dps_app b h)
theorem all_imp {K : PySem.W.Frag} {H H' : Hp} {p : PyData → Bool} (f : ∀ d v, p d = true → Dp K H v d → Dp K H' v d) : ∀ (ds : List PyData) (vs : List V), ds.all p = true → DpAll K H vs ds → DpAll K H' vs ds
  | [], _, _, h => by cases h; exact .nil
  | d :: ds, _, o, h => by
    rw [List.all_cons, Bool.and_eq_true] at o
    cases h with
    | cons h1 h2 => exact .cons (f _ _ o.1 h1) (all_imp f ds _ o.2 h2)
theorem dp_tpT {K : PySem.W.Frag} {H H' : Hp} (s : Tp H H') : ∀ (h : Nat) (d : PyData) (v : V), okT h d = true → Dp K H v d → Dp K H' v d
  | 0, d, v, o, q => by cases d <;> simp [okT] at o
  | h + 1, d, v, o, q => by
    cases q with
    | non => exact .non
    | bl b => exact .bl _
    | int i => exact .int _
    | str x => exact .str _
    | lst _ _ => simp [okT] at o
    | tup hs ha =>
      simp only [okT, Bool.and_eq_true] at o
      exact .tup (s.sq hs) (all_imp (fun d v o q => dp_tpT s h d v o q) _ _ o.2 ha)
end K6

set_option Elab.async false
set_option linter.all false
set_option maxRecDepth 100000
set_option maxHeartbeats 4000000
namespace K6
open PySem PySem.Spec PyProof.Rows L2 So
section
variable {Pg : Program} {w : World} {K : PySem.W.Frag} {mg : Str → Option Value} {base : Heap} {P : Addr}
abbrev sLls : Stmt := top 53
theorem scLls : FnScope ["value", "one"] ["value"] (defScope sLls) := ⟨rfl, rfl, rfl, by decide +kernel, rfl, by decide +kernel, by decide +kernel⟩
def spLls (K : PySem.W.Frag) (P : Addr) (h : Nat) : Sp := fun vs H Q _ => GxR.TabG H P ∧ ∃ (v : V) (D : PyData), vs = [v] ∧ Dp K H v D ∧ okT h D = true ∧ ∀ v' H', Sm P H H' → Dp K (nw H H') v' (lsD D) → Q v' H'
theorem leaf_lists {H H' : Hp} {v : V} {D : PyData} {h : Nat} (q : Dp K H v D) (o : okT h D = true) : (∃ a xs ds, v = .ref a ∧ D = .tuple ds ∧ SqT K H a xs ∧ DpAll K H xs ds) ∨ (Dp K H' v (lsD D) ∧ ∃ t, TyX K H v t ∧ PySem.W.kitOne K t (.type "tuple") = some false) := by
  cases q with
  | non => cases h <;> simp [okT] at o
  | bl b => exact .inr ⟨by rw [lsD]; exact .bl _, _, .base (.bl b), kit_ty (by decide +kernel)⟩
  | int i => exact .inr ⟨by rw [lsD]; exact .int _, _, .base (.int i), kit_ty (by decide +kernel)⟩
  | str x => exact .inr ⟨by rw [lsD]; exact .str _, _, .base (.str x), kit_ty (by decide +kernel)⟩
  | lst _ _ => cases h <;> simp [okT] at o
  | tup h1 h2 => exact .inl ⟨_, _, _, rfl, rfl, h1, h2⟩
theorem ok_lls {f : Addr} {fd : FuncData} (F : Fun K "_law_lists" "_law_lists" sLls f fd) (T : Ty K mg) (R : Df K mg "_law_lists" sLls ["value"] f fd) :
    ∀ h, FnOk Pg w K mg base CX0 (h + 1) f fd ["value"] (spLls K P h)
  | 0 => by
    refine F.ok scLls (fun vs H Q E h => ?_) (fun cdv A' outer s H vs Q E hr h => ?_)
    · obtain ⟨_, _, _, rfl, _⟩ := h
      rfl
    · obtain ⟨_, _, _, _, _, z, _⟩ := h
      simp [okT] at z
  | h + 1 => by
    have G : FnOk Pg w K mg base CX0 (h + 1) f fd ["value"] (spLls K P h) := ok_lls F T R h
    refine F.ok scLls (fun vs H Q E h => ?_) (fun cdv A' outer s H vs Q E hr h => ?_)
    · obtain ⟨_, _, _, rfl, _⟩ := h
      rfl
    obtain ⟨t, v, D, rfl, hD, ok, k⟩ := h
    refine ⟨_, pss_one (ps_ret (pe_ifExp (pt_val (pe_callB call_isi (by rfl) T.T.isi (by decide +kernel) (pa_cons (pv 0) (pa_cons (pe_bltn (v := .ty "tuple") (by rfl) T.T.tuple (by decide +kernel) rfl) pa_nil))))
      (pe_lc (own := [("one", 1)]) (g := gName 1) (tt := tYes) rfl scLls.nd (pi_tup (pv 0)) (blkOk_by (N := ["value", "one"]) (sc := defScope sLls) (by decide +kernel)) (fun _ _ _ _ _ => pg_name (i := 1) scLls.nd rfl (Or.inl rfl)) (fun _ _ _ _ _ => pts_nil)
        (fun _ _ _ _ _ => pe_call G hr (by rfl) R.g R.F.kp R.b .nil pass0 (pa_cons (pv 1) pa_nil))) (pv 0))), ?_⟩
    rcases leaf_lists (H' := nw H H) hD ok with ⟨a, xs, ds, rfl, rfl, hs, ha⟩ | ⟨hl, ty, h1, h2⟩
    · simp only [okT, Bool.and_eq_true, decide_eq_true_eq] at ok
      obtain ⟨o1, o2⟩ := ok
      have lx := dps_len ha
      refine ⟨_, rfl, _, _, _, _, true, rfl, .ty _, tyT hs, kit_ty (by decide +kernel), true, rfl, iteT ?_⟩
      refine ⟨_, rfl, a, rfl, ⟨xs, hs⟩, fun D hD => ?_⟩
      have DP : D ≠ P := nPt t hD
      refine lc_tup (xs := xs) (fun i H' => ∃ zs, Sm P H H' ∧ H' D = some (.lst zs) ∧ zs.length = i ∧ DpAll K (nwD H D H') zs (lsDs (ds.take i))) ⟨[], Sm.new t hD, upd_same, rfl, by rw [List.take_zero, lsDs]; exact .nil⟩ (fun i H' _ ⟨_, s, _⟩ => s.tup t hs) ?_ ?_
      · rintro i x H' hx ⟨zs, s1, q1, q2, q3⟩
        obtain ⟨d, hd, hdx⟩ := dps_at ha hx
        have hi : i < ds.length := (List.getElem?_eq_some_iff.mp hd).1
        have od : okT h d = true := List.all_eq_true.mp o2 d (List.mem_of_getElem? hd)
        refine ⟨rfl, _, rfl, s1.2, x, d, rfl, dp_tpT (Tp.sm t s1) h d x od hdx, od, fun v' H4 s4 hv => ?_⟩
        have q1' := s4.atL s1.2 q1
        refine ⟨zs, q1', Nat.lt_of_lt_of_le (by omega : zs.length < 10000) (by decide), zs ++ [v'], (s1.trans s4).mut hD DP, upd_same, by rw [List.length_append, q2]; rfl, ?_⟩
        have up : ∀ b o, nwD H D H4 b = some o → nwD H D (upd H4 D (.lst (zs ++ [v']))) b = some o := fun b o e => by
          unfold nwD at e ⊢
          split at e
          · rename_i z
            rw [if_pos z, upd_ne z.2]
            exact e
          · cases e
        have old : ∀ b o, nwD H D H' b = some o → nwD H D H4 b = some o := fun b o e => by
          unfold nwD at e ⊢
          split at e
          · rename_i z
            rw [if_pos z]
            exact s4.1 _ _ (nPt t z.1) e
          · cases e
        have fresh : ∀ b o, nw H' H4 b = some o → nwD H D H4 b = some o := fun b o e => by
          unfold nw at e
          unfold nwD
          split at e
          · rename_i z
            rw [if_pos ⟨s1.free t z, fun y => by rw [y, q1] at z; cases z⟩]
            exact e
          · cases e
        rw [take_snoc hd, lsDs_app]
        refine dps_app (dps_sub up _ _ (dps_sub old _ _ q3)) ?_
        rw [lsDs, lsDs]
        exact .cons (dp_sub up _ _ (dp_sub fresh _ _ hv)) .nil
      · rintro H' ⟨zs, s1, q1, q2, q3⟩
        rw [lx, List.take_length] at q3
        refine k _ _ s1 ?_
        rw [lsD]
        refine .lst (.inl (.inl ?_)) (dps_sub (fun b o e => ?_) _ _ q3)
        · unfold nw
          rw [if_pos hD]
          exact q1
        · unfold nwD at e
          unfold nw
          split at e
          · rename_i z
            rw [if_pos z.1]
            exact e
          · cases e
    · refine ⟨_, rfl, _, _, _, _, false, rfl, .ty _, h1, h2, false, rfl, iteF ?_⟩
      exact ⟨_, rfl, k _ _ (Sm.refl t) hl⟩
end
end K6

set_option Elab.async false
set_option linter.all false
set_option maxRecDepth 100000
set_option maxHeartbeats 4000000
namespace K6
open PySem PySem.Spec PyProof.Rows L2 So
/-! ### repr of data, where nothing is under way -/
def rReprD (K : PySem.W.Frag) : List V → Hp → VK → Prop := fun xs H Q => ∃ (a : Addr) (D : PyData), xs = [.ref a] ∧ Dp K H (.ref a) D ∧ D.showable = true ∧ D.hasDict = false ∧ D.depth ≤ 60 ∧ D.shown.length ≤ sizeLine ∧ Q (.str D.shown) H
theorem call_reprD {X : Cx} (hg : X.A.guards = some []) (hu : X.A.units + 64 < cLine) : CallR X (.builtin "repr") (rReprD X.K) := by
  intro pins s σ H xs us Q I r h
  obtain ⟨a, D, rfl, hD, h1, h2, h3, h4, q⟩ := h
  obtain ⟨u, rfl, ru⟩ := vals1 r
  cases (show u = Value.ref a from ru)
  obtain ⟨as, rd⟩ := Dp.reads I D (.ref a) (.ref a) hD rfl
  exact repr_of_reads' rd h1 (PyData.noDict_hsm h2) hg (by omega) (fun _ _ e => e) (fun h' u tk hk => ⟨.str D.shown, H, I.kept hk, ⟨u, rfl⟩, q⟩) h4
/-! ### machines as data -/
def nsD (r : List Nat) : PyData := .tuple (r.map fun n => .int (n : Nat))
def bsD (r : List Bool) : PyData := .tuple (r.map .bool)
def ssD (L : List Str) : PyData := .tuple (L.map .str)
def Mc.D (M : Mc) : PyData := .tuple [ssD M.L, ssD M.X, .tuple [.int (M.tp.n : Nat), .int (M.tp.s : Nat), .tuple (M.tp.tt.map nsD), .tuple (M.tp.tc.map nsD), .tuple (M.tp.an.map bsD)],
  .tuple [.int (M.inn.m : Nat), nsD M.inn.st, .tuple (M.inn.it.map nsD), .tuple (M.inn.ic.map nsD)]]
section
variable {K : PySem.W.Frag} {H : Hp}
theorem ns_all : ∀ ns : List Nat, DpAll K H (iV ns) (ns.map fun n => .int (n : Nat))
  | [] => .nil
  | n :: r => .cons (.int _) (ns_all r)
theorem bs_all : ∀ bs : List Bool, DpAll K H (bV bs) (bs.map .bool)
  | [] => .nil
  | b :: r => .cons (.bl _) (bs_all r)
theorem ss_all : ∀ L : List Str, DpAll K H (sV L) (L.map .str)
  | [] => .nil
  | b :: r => .cons (.str _) (ss_all r)
theorem it_ns {v : V} {ns : List Nat} (h : ItS (SqT K) H v (iV ns)) : Dp K H v (nsD ns) := by
  obtain ⟨b, rfl, h⟩ := h
  exact .tup h (ns_all ns)
theorem it_bs {v : V} {ns : List Bool} (h : ItS (SqT K) H v (bV ns)) : Dp K H v (bsD ns) := by
  obtain ⟨b, rfl, h⟩ := h
  exact .tup h (bs_all ns)
theorem it_ss {v : V} {ns : List Str} (h : ItS (SqT K) H v (sV ns)) : Dp K H v (ssD ns) := by
  obtain ⟨b, rfl, h⟩ := h
  exact .tup h (ss_all ns)
theorem rows_ns : ∀ {xs : List V} {rs : List (List Nat)}, Paired (ItS (SqT K) H) xs (mV rs) → DpAll K H xs (rs.map nsD)
  | [], [], _ => .nil
  | x :: xs, r :: rs, h => by
    cases h with
    | cons h1 h2 => exact .cons (it_ns h1) (rows_ns h2)
  | [], _ :: _, h => by cases h
  | _ :: _, [], h => by cases h
theorem rows_bs : ∀ {xs : List V} {rs : List (List Bool)}, Paired (ItS (SqT K) H) xs (aV rs) → DpAll K H xs (rs.map bsD)
  | [], [], _ => .nil
  | x :: xs, r :: rs, h => by
    cases h with
    | cons h1 h2 => exact .cons (it_bs h1) (rows_bs h2)
  | [], _ :: _, h => by cases h
  | _ :: _, [], h => by cases h
theorem mc_dp {v : V} {M : Mc} (h : McS (SqT K) H v M) : Dp K H v M.D := by
  obtain ⟨a, vL, vX, vT, vI, rfl, ha, hL, hX, ⟨zT, t1, t2, t3, rfl, hzT, ⟨y1, x1, rfl, a1, p1⟩, ⟨y2, x2, rfl, a2, p2⟩, ⟨y3, x3, rfl, a3, p3⟩⟩, ⟨zI, i1, i2, i3, rfl, hzI, hi1, ⟨y4, x4, rfl, a4, p4⟩, ⟨y5, x5, rfl, a5, p5⟩⟩⟩ := h
  exact .tup ha (.cons (it_ss hL) (.cons (it_ss hX) (.cons (.tup hzT (.cons (.int _) (.cons (.int _) (.cons (.tup a1 (rows_ns p1)) (.cons (.tup a2 (rows_ns p2)) (.cons (.tup a3 (rows_bs p3)) .nil))))))
    (.cons (.tup hzI (.cons (.int _) (.cons (it_ns hi1) (.cons (.tup a4 (rows_ns p4)) (.cons (.tup a5 (rows_ns p5)) .nil))))) .nil))))
/-! ### back from lists -/
theorem ls_ns : ∀ ns : List Nat, lsDs (ns.map fun n => .int (n : Nat)) = ns.map fun n => .int (n : Nat)
  | [] => rfl
  | n :: r => by
    simp only [List.map_cons, lsDs, lsD]
    rw [ls_ns r]
theorem ls_bs : ∀ ns : List Bool, lsDs (ns.map .bool) = ns.map .bool
  | [] => rfl
  | n :: r => by
    simp only [List.map_cons, lsDs, lsD]
    rw [ls_bs r]
theorem ls_ss : ∀ ns : List Str, lsDs (ns.map .str) = ns.map .str
  | [] => rfl
  | n :: r => by
    simp only [List.map_cons, lsDs, lsD]
    rw [ls_ss r]
theorem ns_back : ∀ {xs : List V} {ns : List Nat}, DpAll K H xs (ns.map fun n => .int (n : Nat)) → xs = iV ns
  | [], [], _ => rfl
  | x :: xs, n :: r, h => by
    cases h with
    | cons h1 h2 =>
      cases h1
      rw [ns_back h2]
      rfl
  | [], _ :: _, h => by cases h
  | _ :: _, [], h => by cases h
theorem bs_back : ∀ {xs : List V} {ns : List Bool}, DpAll K H xs (ns.map .bool) → xs = bV ns
  | [], [], _ => rfl
  | x :: xs, n :: r, h => by
    cases h with
    | cons h1 h2 =>
      cases h1
      rw [bs_back h2]
      rfl
  | [], _ :: _, h => by cases h
  | _ :: _, [], h => by cases h
theorem ss_back : ∀ {xs : List V} {ns : List Str}, DpAll K H xs (ns.map .str) → xs = sV ns
  | [], [], _ => rfl
  | x :: xs, n :: r, h => by
    cases h with
    | cons h1 h2 =>
      cases h1
      rw [ss_back h2]
      rfl
  | [], _ :: _, h => by cases h
  | _ :: _, [], h => by cases h
theorem dp_lst {v : V} {ds : List PyData} (h : Dp K H v (.list ds)) : ∃ a xs, v = .ref a ∧ SqL K H a xs ∧ DpAll K H xs ds := by
  cases h with
  | lst h1 h2 => exact ⟨_, _, rfl, h1, h2⟩
theorem ns_it {v : V} {ns : List Nat} (h : Dp K H v (lsD (nsD ns))) : ItS (Sq K) H v (iV ns) := by
  rw [nsD, lsD, ls_ns] at h
  obtain ⟨a, xs, rfl, h1, h2⟩ := dp_lst h
  rw [ns_back h2] at h1
  exact ⟨a, rfl, .inr h1⟩
theorem bs_it {v : V} {ns : List Bool} (h : Dp K H v (lsD (bsD ns))) : ItS (Sq K) H v (bV ns) := by
  rw [bsD, lsD, ls_bs] at h
  obtain ⟨a, xs, rfl, h1, h2⟩ := dp_lst h
  rw [bs_back h2] at h1
  exact ⟨a, rfl, .inr h1⟩
theorem ss_it {v : V} {ns : List Str} (h : Dp K H v (lsD (ssD ns))) : ItS (Sq K) H v (sV ns) := by
  rw [ssD, lsD, ls_ss] at h
  obtain ⟨a, xs, rfl, h1, h2⟩ := dp_lst h
  rw [ss_back h2] at h1
  exact ⟨a, rfl, .inr h1⟩
theorem ns_rows : ∀ {xs : List V} {rs : List (List Nat)}, DpAll K H xs (lsDs (rs.map nsD)) → Paired (ItS (Sq K) H) xs (mV rs)
  | [], [], _ => .nil
  | x :: xs, r :: rs, h => by
    rw [List.map_cons, lsDs] at h
    cases h with
    | cons h1 h2 => exact .cons (ns_it h1) (ns_rows h2)
  | [], _ :: _, h => by rw [List.map_cons, lsDs] at h; cases h
  | _ :: _, [], h => by rw [List.map_nil, lsDs] at h; cases h
theorem bs_rows : ∀ {xs : List V} {rs : List (List Bool)}, DpAll K H xs (lsDs (rs.map bsD)) → Paired (ItS (Sq K) H) xs (aV rs)
  | [], [], _ => .nil
  | x :: xs, r :: rs, h => by
    rw [List.map_cons, lsDs] at h
    cases h with
    | cons h1 h2 => exact .cons (bs_it h1) (bs_rows h2)
  | [], _ :: _, h => by rw [List.map_cons, lsDs] at h; cases h
  | _ :: _, [], h => by rw [List.map_nil, lsDs] at h; cases h
theorem nss_it {v : V} {rs : List (List Nat)} (h : Dp K H v (lsD (.tuple (rs.map nsD)))) : RowsS (Sq K) H v (mV rs) := by
  rw [lsD] at h
  obtain ⟨a, xs, rfl, h1, h2⟩ := dp_lst h
  exact ⟨a, xs, rfl, .inr h1, ns_rows h2⟩
theorem bss_it {v : V} {rs : List (List Bool)} (h : Dp K H v (lsD (.tuple (rs.map bsD)))) : RowsS (Sq K) H v (aV rs) := by
  rw [lsD] at h
  obtain ⟨a, xs, rfl, h1, h2⟩ := dp_lst h
  exact ⟨a, xs, rfl, .inr h1, bs_rows h2⟩
theorem mc_back {v : V} {M : Mc} (h : Dp K H v (lsD M.D)) : McS (Sq K) H v M := by
  rw [Mc.D, lsD] at h
  obtain ⟨a, xs, rfl, h1, h2⟩ := dp_lst h
  simp only [lsDs] at h2
  cases h2 with | cons b1 h2 =>
  cases h2 with | cons b2 h2 =>
  cases h2 with | cons b3 h2 =>
  cases h2 with | cons b4 h2 =>
  cases h2
  rw [lsD] at b3 b4
  obtain ⟨zT, ys, rfl, c1, c2⟩ := dp_lst b3
  obtain ⟨zI, zs, rfl, e1, e2⟩ := dp_lst b4
  simp only [lsDs] at c2 e2
  cases c2 with | cons d1 c2 =>
  cases c2 with | cons d2 c2 =>
  cases c2 with | cons d3 c2 =>
  cases c2 with | cons d4 c2 =>
  cases c2 with | cons d5 c2 =>
  cases c2
  cases e2 with | cons f1 e2 =>
  cases e2 with | cons f2 e2 =>
  cases e2 with | cons f3 e2 =>
  cases e2 with | cons f4 e2 =>
  cases e2
  rw [lsD] at d1 d2 f1
  cases d1
  cases d2
  cases f1
  exact ⟨a, _, _, _, _, rfl, .inr h1, ss_it b1, ss_it b2, ⟨zT, _, _, _, rfl, .inr c1, nss_it d3, nss_it d4, bss_it d5⟩, ⟨zI, _, _, _, rfl, .inr e1, ns_it f2, nss_it f3, nss_it f4⟩⟩
end
end K6

set_option Elab.async false
set_option linter.all false
set_option maxRecDepth 100000
set_option maxHeartbeats 4000000
namespace SoG
open PySem PySem.Spec PyProof.Rows L2 So
/-- a law's def where it is called from outside: there nothing is under way -/
def GOk (Pg : Program) (w : World) (K : PySem.W.Frag) (mg : Str → Option Value) (base : Heap) (f : Addr) (fd : FuncData) (sp : Sp) : Prop :=
  ∀ (s : Shared) (H : Hp) (u : Value) (v : V) (Q : VK) (E : XK), Env0 Pg w K mg base callerA [] s H → BindsTo s fd ⟨[u], []⟩ [("script", u)] → RelV v u → sp [v] H Q E → codeAny (model Pg w) callerA (.call (.ref f) ⟨[u], []⟩) (CR CX0 [] Pg w H s Q E) s
section
variable {Pg : Program} {w : World} {K : PySem.W.Frag} {mg : Str → Option Value} {base : Heap}
theorem law_ok {x : Str} {st : Stmt} {f : Addr} {fd : FuncData} {N : List Str} {k : Nat} {sp : Sp} (F : Fun K x x st f fd) (S : FnScope N ["script"] (defScope st)) (hr : Room (k + 1) callerA)
    (body : ∀ (cd : Value) (s : Shared) (H : Hp) (v : V) (Q : VK) (E : XK), Room k (callerA.deeper (envOfC x (defScope st) s.heap.objs.size f cd)) → sp [v] H Q E →
      ∃ t, PSs (cxOf CX0 Pg w K mg base N x (defScope st) f cd callerA [] s H E).nox (defBody st) t ∧ t { nx := fun _ H' => Q .non H', rt := Q } (start N [v]) H) : GOk Pg w K mg base f fd sp := by
  obtain ⟨oc, od, kV, doc, pm, an, cd, ct, osl, rfl, lk, hcd⟩ := F.ex
  intro s H u v Q E e0 hb r hsp
  have kp : ∀ b o, base.get? b = some o → s.heap.get? b = some o := fun b o z => (e0.bs b o z).1
  have pk : ∀ y ∈ [(("script" : Str), u)], (defScope st).names.lookup y.1 = some .local ∨ ((defScope st).names.lookup y.1 = some .cell ∧ ((cellsFrom (s.heap.objs.size + 1) (defScope st).names []).lookup y.1).isSome = true) := by
    intro y hy
    cases List.mem_singleton.mp hy
    exact (S.par "script" (List.mem_singleton.mpr rfl)).imp id fun q => ⟨q, PySem.W.cellsFrom_some _ _ _ (.inl q)⟩
  have KX := e0.mod.kin.keeps kp
  refine codeAny_call_function hr.depth (KX _ _ lk) rfl S.co S.gen rfl (PySem.W.codeRec_of KX hcd) (hb _ _ _ _ (wpAny_newFunctionEnv_cells S.kind pk fun env he s1 x1 => ?_))
  subst he
  obtain ⟨t, ht, hq⟩ := body cd s H v Q E (hr.deeper _) hsp
  have I := inv_start (CX := CX0) (E := E) (cd := cd) (f := f) (qual := x) (us := [u]) S hr.hd e0 rfl (.cons r .nil) x1
  refine ⟨(e0.mod.nolimit.keeps kp).keeps x1.toInCall.keep, codeAny_func (wpAny_mono (ht.nox.run [] s1 _ H _ I hq) (fun fl s' hs => ?_) fun _ _ z => z)⟩
  match fl, hs with
  | .ret u, ⟨v, σ', H', J, rv, q⟩ => exact ⟨v, H', J.os, J.bare, J.base, J.hok, rv, q⟩
  | .next, ⟨σ', H', J, q⟩ => exact ⟨V.non, H', J.os, J.bare, J.base, J.hok, rfl, q⟩
  | .brk, ⟨_, _, _, q⟩ => exact q.elim
  | .cont, ⟨_, _, _, q⟩ => exact q.elim
end
end SoG

set_option Elab.async false
set_option linter.all false
set_option maxRecDepth 100000
set_option maxHeartbeats 4000000
namespace SoG
open PySem PySem.Spec PyProof.Rows L2 So
/-- the script and the code's table, and nothing else, at the law's call -/
noncomputable def h0 (K : PySem.W.Frag) (a T : Addr) (o : Obj) (xs : List V) : Hp := fun b =>
  if b = T then some (.tbl #[]) else if b = a ∧ K.lookup a = none then some (.frz o (.lst xs)) else none
section
variable {K : PySem.W.Frag} {a T : Addr} {o : Obj} {xs : List V}
theorem h0_T : h0 K a T o xs T = some (.tbl #[]) := if_pos rfl
theorem h0_a (n : a ≠ T) (h : K.lookup a = none) : h0 K a T o xs a = some (.frz o (.lst xs)) := (if_neg n).trans (if_pos ⟨rfl, h⟩)
theorem h0_one {b : Addr} {u : HO} (h : h0 K a T o xs b = some u) : (b = T ∧ u = .tbl #[]) ∨ (b ≠ T ∧ b = a ∧ K.lookup a = none ∧ u = .frz o (.lst xs)) := by
  by_cases e : b = T
  · exact .inl ⟨e, Option.some.inj (((if_pos e).symm.trans h).symm)⟩
  · have h' := (if_neg e).symm.trans h
    by_cases e2 : b = a ∧ K.lookup a = none
    · exact .inr ⟨e, e2.1, e2.2, Option.some.inj ((if_pos e2).symm.trans h').symm⟩
    · exact nomatch (if_neg e2).symm.trans h'
end
variable {Pg : Program} {w : World} {K : PySem.W.Frag} {mg mb : Str → Option Value} {fa a c T : Addr} {fd : FuncData} {sp : Sp} {s : Shared} {vs : List Value} {ns : List Int}
/-- the law is called: what GOk says of it is the law's truth -/
theorem law_end (KX : K.In s.heap) (hG : s.heap.Ns mainGlobals mg) (hB : s.heap.Ns builtinsNs mb) (hBB : ∀ x : Str, x ≠ "__name__" → mb x = bootBuiltins x) (hL : s.heap.NoLimit) (hg : s.gens = #[])
    (tT : s.heap.get? T = some { cls := .none, data := .fields #[] }) (nT : K.lookup T = none) (Cd : PySem.W.CodeHd s.heap c T)
    (bm : ∃ (m : Addr) (ob : Obj), mg "__builtins__" = some (.ref m) ∧ m ≠ builtinsNs ∧ s.heap.get? m = some ob ∧ ob.cls = .type "module" ∧ ob.dict = some builtinsNs ∧ ob.data = .plain)
    (ha : s.heap.get? a = some { cls := .type "list", data := .seq vs.toArray }) (hi : IntsAre vs ns) (hl : ns.length ≤ sizeLine)
    (F : ∀ base : Heap, K.In base → base.Ns mainGlobals mg → GxR.TabB base mg c T → GOk Pg w K mg base fa fd sp) (hb : ∀ (s : Shared) (u : Value), BindsTo s fd ⟨[u], []⟩ [("script", u)])
    (hsp : ∀ H : Hp, H T = some (.tbl #[]) → SqL K H a (ns.map V.int) → sp [.ref a] H (fun v _ => v = .bl true) fun _ _ _ => False) :
    codeAny (model Pg w) callerA (.call (.ref fa) ⟨[.ref a], []⟩) (fun r s' => r = .ok (.ret (.bool true)) ∧ OldK s.heap s'.heap ∧ s'.os = s.os ∧ AllBare s'.gens) s := by
  have vi := vals_ints hi
  have lv := hi.length
  have aT : a ≠ T := fun z => by
    rw [z, tT] at ha
    exact nomatch congrArg Obj.data (Option.some.inj ha)
  obtain ⟨H, hH⟩ : ∃ H, H = h0 K a T { cls := .type "list", data := .seq vs.toArray } (ns.map V.int) := ⟨_, rfl⟩
  -- what stands at no place of H stands in what is hidden of it
  have free : ∀ {b : Addr} {ob : Obj}, s.heap.get? b = some ob → (∀ us n, ob.data ≠ .seq us n) → ob.data ≠ .fields #[] → H b = none := by
    intro b ob e n1 n2
    cases q : H b with
    | none => rfl
    | some u =>
      rw [hH] at q
      rcases h0_one q with ⟨rfl, _⟩ | ⟨_, rfl, _, _⟩
      · rw [tT] at e
        cases e
        exact absurd rfl n2
      · rw [ha] at e
        cases e
        exact absurd rfl (n1 _ _)
  have get : ∀ {b : Addr} {ob : Obj}, s.heap.get? b = some ob → H b = none → (hidT s.heap H).get? b = some ob := hidT_get
  have dic : ∀ {b : Addr} {ob : Obj} {es : Array DictEntry} {n : Nat}, s.heap.get? b = some ob → ob.data = .dict es n → (hidT s.heap H).get? b = some ob := fun e d =>
    get e (free e (fun _ _ z => nomatch d.symm.trans z) fun z => nomatch d.symm.trans z)
  have nsp : ∀ {b : Addr} {m : Str → Option Value}, s.heap.Ns b m → (hidT s.heap H).Ns b m := by
    rintro b m ⟨ob, es, n, e, d, rest⟩
    exact ⟨ob, es, n, dic e d, d, rest⟩
  have KH : K.In (hidT s.heap H) := by
    intro b ob e
    refine get (KX b ob e) ?_
    cases q : H b with
    | none => rfl
    | some u =>
      rw [hH] at q
      rcases h0_one q with ⟨rfl, _⟩ | ⟨_, rfl, na, _⟩
      · rw [nT] at e
        cases e
      · rw [na] at e
        cases e
  have tab : GxR.TabB (hidT s.heap H) mg c T := by
    constructor
    · obtain ⟨ob, us, file, tf, flags, tg, inF, text, tt, e, r1, r2, r3, rest⟩ := Cd
      refine ⟨ob, us, file, tf, flags, tg, inF, text, tt, get e (free e (fun _ _ z => nomatch r2.symm.trans z) fun z => ?_), r1, r2, r3, rest⟩
      cases r2.symm.trans z
      exact nomatch r3
    · obtain ⟨m, ob, b1, b2, b3, b4, b5, b6⟩ := bm
      refine ⟨m, ob, b1, b2, fun q => ?_, fun q => ?_, get b3 (free b3 (fun _ _ z => nomatch b6.symm.trans z) fun z => nomatch b6.symm.trans z), b4, b5, b6⟩
      · obtain ⟨_, _, _, e, d, _⟩ := hG
        rw [← q, b3] at e
        cases e
        exact nomatch b6.symm.trans d
      · rw [q, tT] at b3
        cases b3
        exact nomatch b6
    · intro z
      obtain ⟨_, _, _, e, d, _⟩ := hG
      rw [z, tT] at e
      cases e
      exact nomatch d
  have hok : HOk Pg w H s.heap := by
    intro b u q
    rw [hH] at q
    rcases h0_one q with ⟨rfl, rfl⟩ | ⟨_, rfl, _, rfl⟩
    · exact tT
    · exact ⟨ha, by rw [List.length_map]; exact hl, vs, _, vi, ha⟩
  have sq : SqL K H a (ns.map V.int) := by
    cases q : K.lookup a with
    | none => exact .inl (.inr ⟨_, by rw [hH]; exact h0_a aT q⟩)
    | some ob =>
      have e := KX a ob q
      rw [ha] at e
      cases e
      exact .inr ⟨_, vs.toArray, _, q, rfl, rfl, rfl, by rw [List.size_toArray, lv]; exact hl, by simpa using vi⟩
  have hT : H T = some (.tbl #[]) := by
    rw [hH]
    exact h0_T
  have e0 : Env0 Pg w K mg (hidT s.heap H) callerA [] s H :=
    { frames := rfl
      mod := ⟨KH, nsp hG, ⟨mb, nsp hB, hBB⟩, hL.imp fun _ z => ⟨nsp z.1, z.2⟩⟩
      bs := fun _ _ e => of_hidT e
      bsz := Nat.le_of_eq (hidT_size _ _)
      funs := trivial
      frf := fun _ z => nomatch z
      hok := hok
      bare := .of_eq hg }
  refine codeAny_mono (F _ KH (nsp hG) tab s H (.ref a) (.ref a) _ _ e0 (hb s _) rfl (hsp H hT sq)) fun r s' h => ?_
  match r, h with
  | .ok (.ret u), ⟨v, H', os, bare, un, hok', rv, e⟩ =>
    cases e
    cases (show u = Value.bool true from rv)
    obtain ⟨more, z⟩ := un.tbls T #[] hT
    have gT : s'.heap.get? T = some { cls := .none, data := .fields more } := by
      have := hok' T _ z
      rw [Array.empty_append] at this
      exact this
    have key : ∀ b ob, b ≠ T → s.heap.get? b = some ob → s'.heap.get? b = some ob := by
      intro b ob n e
      cases q : H b with
      | none => exact un.keep b ob e q (fun z => nomatch z) (fun z => nomatch z)
      | some u =>
        have q' := q
        rw [hH] at q'
        rcases h0_one q' with ⟨rfl, _⟩ | ⟨_, rfl, _, rfl⟩
        · exact absurd rfl n
        · rw [ha] at e
          cases e
          exact (hok' _ _ (un.frzs _ _ _ q)).1
    refine ⟨rfl, ⟨fun b ob e => ?_, fun b ob e => ?_⟩, os, bare⟩
    · by_cases n : b = T
      · subst n
        rw [tT] at e
        cases e
        exact .inr (.inl ⟨(Cd.tab tT).isCodeTable, rfl, #[], more, rfl, by rw [Array.empty_append]; exact gT⟩)
      · exact .inl (key b ob n e)
    · by_cases n : b = T
      · exact ⟨_, by rw [n]; exact gT⟩
      · exact ⟨_, key b ob n e⟩
  | .error e, h => exact h.elim
  | .ok .next, h => exact h.elim
  | .ok .brk, h => exact h.elim
  | .ok .cont, h => exact h.elim
end SoG

set_option Elab.async false
set_option linter.all false
set_option maxRecDepth 100000
set_option maxHeartbeats 4000000
namespace K6
open PySem PySem.Spec PyProof.Rows L2 So
/-! ### calls by keywords alone -/
def g1 {α : Type} : List α → List α → List α
  | [], [a] => [a]
  | _, _ => []
def g2 {α : Type} : List α → List α → List α
  | [], [b, a] => [a, b]
  | _, _ => []
theorem kb1 {K : PySem.W.Frag} {x q p : Str} {st : Stmt} {f : Addr} {fd : FuncData} (F : Fun K x q st f fd)
    (h : ∀ (kV doc pm : Value) (an : Option Addr) (cdv ct a : Value), bindArgs (PySem.W.fnOf x q (defArgs st) (defBody st) (defScope st) .none kV doc pm an cdv ct) ⟨[], [(p, a)]⟩ = pure [(p, a)]) : KBinds K fd [p] [p] g1 g1 := by
  obtain ⟨oc, od, kV, doc, pm, an, cdv, ct, osl, rfl, lk, hcd⟩ := F.ex
  refine ⟨fun s us ws _ hl => ?_, fun r z => ?_⟩
  · match us, ws, hl with
    | [], [a], _ => exact .of_eq (h kV doc pm an cdv ct a)
    | [], [], hl => exact nomatch hl
    | [], _ :: _ :: _, hl => exact nomatch hl
    | _ :: _, _, hl => exact nomatch hl
  · cases r with
    | nil =>
      cases z with
      | nil => exact .nil
      | cons a z =>
        cases z with
        | nil => exact .cons a .nil
        | cons b z => exact .nil
    | cons a r => exact .nil
theorem kb2 {K : PySem.W.Frag} {x n p q : Str} {st : Stmt} {f : Addr} {fd : FuncData} (F : Fun K x n st f fd)
    (h : ∀ (kV doc pm : Value) (an : Option Addr) (cdv ct a b : Value), bindArgs (PySem.W.fnOf x n (defArgs st) (defBody st) (defScope st) .none kV doc pm an cdv ct) ⟨[], [(q, b), (p, a)]⟩ = pure [(p, a), (q, b)]) : KBinds K fd [p, q] [q, p] g2 g2 := by
  obtain ⟨oc, od, kV, doc, pm, an, cdv, ct, osl, rfl, lk, hcd⟩ := F.ex
  refine ⟨fun s us ws _ hl => ?_, fun r z => ?_⟩
  · match us, ws, hl with
    | [], [b, a], _ => exact .of_eq (h kV doc pm an cdv ct a b)
    | [], [], hl => exact nomatch hl
    | [], [_], hl => exact nomatch hl
    | [], _ :: _ :: _ :: _, hl => exact nomatch hl
    | _ :: _, _, hl => exact nomatch hl
  · cases r with
    | nil =>
      cases z with
      | nil => exact .nil
      | cons a z =>
        cases z with
        | nil => exact .nil
        | cons b z =>
          cases z with
          | nil => exact .cons b (.cons a .nil)
          | cons c z => exact .nil
    | cons a r => exact .nil
section
variable {X : Cx} {CX : CXT} {k : Nat} {f : Addr} {fd : FuncData} {ps ks : List Str} {sp : Sp} {E : XK} {x : Str} {p pos : Pos} {kws : List Keyword} {tk : TA} {g : List Value → List Value → List Value} {gV : List V → List V → List V}
theorem pe_callK0 (F : FnOk X.prog X.w X.K X.mg X.base CX k f fd ps sp) (hr : Room k X.A) (hg : Gl X x) (hm : X.mg x = some (.ref f)) (hk : PySem.W.keepIn X.K (.ref f) = true) (hb : KBinds X.K fd ps ks g gV) (hx : Passes CX X E)
    (hkw : PK X kws tk) (hall : (backToKw pos (keywordEach kws X.env)).all (·.1.isSome) = true := by rfl) (hks : (backToKw pos (keywordEach kws X.env)).filterMap (·.1) = ks := by rfl)
    (hdb : (x == ("__debug__" : Str)) = false := by decide) (hpl : ((backTo pos (starEach [] X.env)).any (·.1) || (backToKw pos (keywordEach kws X.env)).any (·.1.isNone)) = false := by rfl) :
    PE X (.Call (.Name x p) [] kws pos) (tCallK sp gV E tNil tk) := by
  refine ⟨fun pins s σ H Q I h => wpAny_Call_Name_kw (ld_glob I hg hm ?_ hdb)⟩
  refine PySem.W.callWith_KW0 (h₀ := X.base) I.ok.mod.kin hk hall (thn (hkw.run pos pins s σ H _ I h) fun ws s2 ⟨zs, H2, I2, rz, q2⟩ => ⟨I2.kIn, ?_⟩) hpl
  rw [hks]
  exact run_fnk (us := []) (vs := []) F hr hb hx I2 .nil rz q2
end
/-! ### what is asked of machines as data -/
theorem all_map {α : Type} {f : α → PyData} {p : PyData → Bool} {l : List α} (h : ∀ x ∈ l, p (f x) = true) : (l.map f).all p = true := by
  rw [List.all_eq_true]
  intro y hy
  obtain ⟨x, hx, rfl⟩ := List.mem_map.mp hy
  exact h x hx
theorem okT_tup {h : Nat} {ds : List PyData} (l : ds.length ≤ 1000) (a : ds.all (okT h) = true) : okT (h + 1) (.tuple ds) = true := by
  simp only [okT]
  rw [decide_eq_true l, a]
  rfl
theorem okT_ns {ns : List Nat} (h : Nat) (l : ns.length ≤ 1000) : okT (h + 2) (nsD ns) = true := okT_tup (by rw [List.length_map]; exact l) (all_map fun _ _ => rfl)
theorem okT_bs {ns : List Bool} (h : Nat) (l : ns.length ≤ 1000) : okT (h + 2) (bsD ns) = true := okT_tup (by rw [List.length_map]; exact l) (all_map fun _ _ => rfl)
theorem okT_ss {ns : List Str} (h : Nat) (l : ns.length ≤ 1000) : okT (h + 2) (ssD ns) = true := okT_tup (by rw [List.length_map]; exact l) (all_map fun _ _ => rfl)
theorem okT_nss {rs : List (List Nat)} (h : Nat) (l : rs.length ≤ 1000) (a : ∀ r ∈ rs, r.length ≤ 1000) : okT (h + 3) (.tuple (rs.map nsD)) = true := okT_tup (by rw [List.length_map]; exact l) (all_map fun r hr => okT_ns h (a r hr))
theorem okT_bss {rs : List (List Bool)} (h : Nat) (l : rs.length ≤ 1000) (a : ∀ r ∈ rs, r.length ≤ 1000) : okT (h + 3) (.tuple (rs.map bsD)) = true := okT_tup (by rw [List.length_map]; exact l) (all_map fun r hr => okT_bs h (a r hr))
theorem mc_okT {M : Mc} (o : M.ok) : okT 5 M.D = true := by
  have lL := okL6 o
  have lX := okX4 o
  obtain ⟨_, _, ⟨i1, i2, i3, i4, i5, i6, i7, i8⟩, ⟨t1, t2, t3, t4, t5, t6, t7, t8, kk, _, t9, t10, t11, t12⟩⟩ := o
  have e1 := okT_ss (ns := M.L) 2 (by omega)
  have e2 := okT_ss (ns := M.X) 2 (by omega)
  have e3 := okT_nss (rs := M.tp.tt) 0 (by omega) (fun r hr => by have := (t5 r hr).1; omega)
  have e4 := okT_nss (rs := M.tp.tc) 0 (by omega) (fun r hr => by have := (t7 r hr).1; omega)
  have e5 := okT_bss (rs := M.tp.an) 0 (by omega) (fun r hr => by have := t12 r hr; omega)
  have e6 := okT_ns (ns := M.inn.st) 1 (by omega)
  have e7 := okT_nss (rs := M.inn.it) 0 (by omega) (fun r hr => by have := (i6 r hr).1; omega)
  have e8 := okT_nss (rs := M.inn.ic) 0 (by omega) (fun r hr => by have := (i8 r hr).1; omega)
  have e9 : ∀ i : Int, okT 3 (.int i) = true := fun _ => rfl
  refine okT_tup (by show 4 ≤ 1000; decide) ?_
  rw [List.all_cons, List.all_cons, List.all_cons, List.all_cons, List.all_nil, e1, e2, okT_tup (h := 3) (by show 5 ≤ 1000; decide) (by rw [List.all_cons, List.all_cons, List.all_cons, List.all_cons, List.all_cons, List.all_nil, e3, e4, e5, e9, e9]; rfl),
    okT_tup (h := 3) (by show 4 ≤ 1000; decide) (by rw [List.all_cons, List.all_cons, List.all_cons, List.all_cons, List.all_nil, e6, e7, e8, e9]; rfl)]
  rfl
/-- texts that can be laid out -/
def layS2 (L : List Str) : Bool := L.all fun z => (PyData.str z).canLay0
theorem lay_list : ∀ {ds : List PyData}, ds.all (fun d => d.canLay0) = true → PyData.canLayAll0 ds = true
  | [], _ => rfl
  | d :: ds, h => by
    rw [List.all_cons, Bool.and_eq_true] at h
    show (d.canLay0 && PyData.canLayAll0 ds) = true
    rw [h.1, lay_list h.2]
    rfl
theorem lay_tup {ds : List PyData} (h : ds.all (fun d => d.canLay0) = true) : (PyData.tuple ds).canLay0 = true := lay_list h
theorem lay_ns (ns : List Nat) : (nsD ns).canLay0 = true := lay_tup (all_map fun _ _ => rfl)
theorem lay_bs (ns : List Bool) : (bsD ns).canLay0 = true := lay_tup (all_map fun _ _ => rfl)
theorem lay_ss {L : List Str} (h : layS2 L = true) : (ssD L).canLay0 = true := lay_tup (all_map fun x hx => List.all_eq_true.mp h x hx)
theorem mc_lay {M : Mc} (h1 : layS2 M.L = true) (h2 : layS2 M.X = true) : M.D.canLay0 = true := by
  have e : ∀ i : Int, (PyData.int i).canLay0 = true := fun _ => rfl
  refine lay_tup ?_
  rw [List.all_cons, List.all_cons, List.all_cons, List.all_cons, List.all_nil, lay_ss h1, lay_ss h2, lay_tup (ds := [.int (M.tp.n : Nat), .int (M.tp.s : Nat), .tuple (M.tp.tt.map nsD), .tuple (M.tp.tc.map nsD), .tuple (M.tp.an.map bsD)]) ?_,
    lay_tup (ds := [.int (M.inn.m : Nat), nsD M.inn.st, .tuple (M.inn.it.map nsD), .tuple (M.inn.ic.map nsD)]) ?_]
  · rfl
  · rw [List.all_cons, List.all_cons, List.all_cons, List.all_cons, List.all_nil, e, lay_ns, lay_tup (all_map fun r _ => lay_ns r), lay_tup (all_map fun r _ => lay_ns r)]
    rfl
  · rw [List.all_cons, List.all_cons, List.all_cons, List.all_cons, List.all_cons, List.all_nil, e, e, lay_tup (all_map fun r _ => lay_ns r), lay_tup (all_map fun r _ => lay_ns r), lay_tup (all_map fun r _ => lay_bs r)]
    rfl
theorem deepT : ∀ (h : Nat) (d : PyData), okT h d = true → d.depth ≤ h
  | 0, d, o => by cases d <;> simp [okT] at o
  | h + 1, d, o => by
    cases d with
    | tuple ds =>
      simp only [okT, Bool.and_eq_true] at o
      have key : ∀ es : List PyData, es.all (okT h) = true → PyData.depthAll es ≤ h := by
        intro es
        induction es with
        | nil => exact fun _ => Nat.zero_le _
        | cons e es ih =>
          intro q
          rw [List.all_cons, Bool.and_eq_true] at q
          exact Nat.max_le.mpr ⟨deepT h e q.1, ih q.2⟩
      have := key ds o.2
      show PyData.depthAll ds + 1 ≤ h + 1
      omega
    | int _ => exact Nat.zero_le _
    | bool _ => exact Nat.zero_le _
    | str _ => exact Nat.zero_le _
    | none => simp [okT] at o
    | list _ => simp [okT] at o
    | dict _ => simp [okT] at o
theorem shapedT {d : PyData} {h : Nat} (l : d.canLay0 = true) (o : okT h d = true) (h1 : h ≤ 64) : SeqAt.shaped d = true := by
  show (d.canLay0 && decide (d.depth ≤ 64)) = true
  rw [l, Bool.true_and]
  have := deepT h d o
  exact decide_eq_true (by omega)
theorem eqvT {d : PyData} (l : d.canLay0 = true) : (!PyData.eqv d d) = false := by
  rw [PySem.SeqAt.eqv_refl _ l]
  rfl
end K6

set_option Elab.async false
set_option linter.all false
set_option maxRecDepth 100000
set_option maxHeartbeats 4000000
namespace K6
open PySem PySem.Spec PyProof.Rows L2 So
section
variable {S S' : Hp → Addr → List V → Prop} {H H' : Hp} {v : V}
theorem ItS.imp {ys : List V} (f : ∀ a xs, S H a xs → S' H' a xs) (h : ItS S H v ys) : ItS S' H' v ys := by
  obtain ⟨a, e, h⟩ := h
  exact ⟨a, e, f _ _ h⟩
theorem RowsS.imp {yss : List (List V)} (f : ∀ a xs, S H a xs → S' H' a xs) (h : RowsS S H v yss) : RowsS S' H' v yss := by
  obtain ⟨a, xs, e, h, p⟩ := h
  exact ⟨a, xs, e, f _ _ h, paired_mono (fun _ _ q => q.imp f) p⟩
theorem McS.imp {M : Mc} (f : ∀ a xs, S H a xs → S' H' a xs) (h : McS S H v M) : McS S' H' v M := by
  obtain ⟨a, vL, vX, vT, vI, e, ha, hL, hX, ⟨zT, t1, t2, t3, eT, hzT, a1, a2, a3⟩, ⟨zI, i1, i2, i3, eI, hzI, b1, b2, b3⟩⟩ := h
  exact ⟨a, vL, vX, vT, vI, e, f _ _ ha, hL.imp f, hX.imp f, ⟨zT, t1, t2, t3, eT, f _ _ hzT, a1.imp f, a2.imp f, a3.imp f⟩, ⟨zI, i1, i2, i3, eI, f _ _ hzI, b1.imp f, b2.imp f, b3.imp f⟩⟩
end
section
variable {K : PySem.W.Frag} {H H' : Hp} {v : V} {M : Mc}
theorem mc_sq (h : McS (SqT K) H v M) : McS (Sq K) H v M := h.imp fun _ _ q => .inl q
theorem mc_tp (s : Tp H H') (h : McS (SqT K) H v M) : McS (SqT K) H' v M := h.imp fun _ _ q => s.sq q
theorem its_tp {ys : List V} (s : Tp H H') (h : ItS (SqT K) H v ys) : ItS (SqT K) H' v ys := h.imp fun _ _ q => s.sq q
end
theorem SB.to {P b : Addr} {H H1 G : Hp} (s : Sm P H H1) (h : H b = none) (a : SB P b H1 G) : Sm P H G := ⟨fun c o n e => a.keep c o n (ne_of_none e h) (s.1 c o n e), a.tab⟩
theorem lab_all : (mLs.all fun L => match (frees L lets.cps.toList)[0]? with
    | some c => decide ((⟨#[c]⟩ : Str) ∉ L) && !(Builtin.Str.occurrences "abc" ⟨#[c]⟩ 0 ("abc" : Str).length 1).isEmpty && layS2 L
    | none => false) = true := by decide +kernel
theorem lab_good {L : List Str} (h : L ∈ mLs) : ∃ c, (frees L lets.cps.toList)[0]? = some c ∧ (⟨#[c]⟩ : Str) ∉ L ∧ (Builtin.Str.occurrences "abc" ⟨#[c]⟩ 0 ("abc" : Str).length 1).isEmpty = false ∧ layS2 L = true := by
  have q := List.all_eq_true.mp lab_all L h
  cases e : (frees L lets.cps.toList)[0]? with
  | none => simp [e] at q
  | some c =>
    simp only [e, Bool.and_eq_true, decide_eq_true_eq, Bool.not_eq_true'] at q
    exact ⟨c, rfl, q.1.1, q.1.2, q.2⟩
theorem txt_all : (mXs.all fun X => decide (("" : Str) ∉ X) && layS2 X) = true := by decide +kernel
theorem txt_good {X : List Str} (h : X ∈ mXs) : ("" : Str) ∉ X ∧ layS2 X = true := by
  have q := List.all_eq_true.mp txt_all X h
  simp only [Bool.and_eq_true, decide_eq_true_eq] at q
  exact q
/-! ### the answers' texts -/
def twoD (r : List Bool) : PyData := .list [bsD r, bsD r]
theorem two_show (r : List Bool) : (twoD r).showable = true := by
  have : ∀ r : List Bool, PyData.showableAll (r.map .bool) = true := fun r => by
    induction r with
    | nil => rfl
    | cons b r ih => simp only [List.map_cons, PyData.showableAll, PyData.showable, ih, Bool.and_true]
  simp only [twoD, bsD, PyData.showable, PyData.showableAll, this, Bool.and_true]
theorem two_dict (r : List Bool) : (twoD r).hasDict = false := by
  have : ∀ r : List Bool, PyData.hasDictAll (r.map .bool) = false := fun r => by
    induction r with
    | nil => rfl
    | cons b r ih => simp only [List.map_cons, PyData.hasDictAll, PyData.hasDict, ih, Bool.or_false]
  simp only [twoD, bsD, PyData.hasDict, PyData.hasDictAll, this, Bool.or_false]
theorem two_deep (r : List Bool) : (twoD r).depth ≤ 60 := by
  have : ∀ r : List Bool, PyData.depthAll (r.map .bool) = 0 := fun r => by
    induction r with
    | nil => rfl
    | cons b r ih => simp only [List.map_cons, PyData.depthAll, PyData.depth, ih, Nat.max_self]
  simp only [twoD, bsD, PyData.depth, PyData.depthAll, this]
  decide
theorem two_fits {r : List Bool} (h : r.length ≤ 1000) : (twoD r).shown.length ≤ sizeLine := by
  have w : ∀ r : List Bool, PyData.weightAll (r.map .bool) ≤ 100 * r.length := fun r => by
    induction r with
    | nil => exact Nat.zero_le _
    | cons b r ih =>
      have e : (PyData.bool b).weight ≤ 90 := by
        cases b <;> decide +kernel
      simp only [List.map_cons, PyData.weightAll, List.length_cons]
      omega
  have s : ∀ r : List Bool, PyData.leavesShortAll 13 (r.map .bool) = true := fun r => by
    induction r with
    | nil => rfl
    | cons b r ih => simp only [List.map_cons, PyData.leavesShortAll, PyData.leavesShort, ih, Bool.and_true]
  refine PyData.shown_fits (B := 13) (by decide) (by decide) ?_ ?_
  · simp only [twoD, bsD, PyData.leavesShort, PyData.leavesShortAll, s, Bool.and_true]
  · have := w r
    have e : (2 : Nat) ^ 20 = 1048576 := by decide
    rw [e]
    simp only [twoD, bsD, PyData.weight, PyData.weightAll]
    omega
theorem ans_len {M : Mc} (o : M.ok) (ds : List Nd) : (M.ans ds).length ≤ 8 := by
  obtain ⟨_, _, _, ⟨_, _, _, _, _, _, _, _, kk, _, _, _, t11, t12⟩⟩ := o
  unfold Mc.ans
  rw [List.getD_eq_getElem?_getD]
  cases e : M.tp.an[M.row true M.tp.s ds]? with
  | none => exact Nat.zero_le _
  | some r =>
    have := t12 r (List.mem_of_getElem? e)
    simp only [Option.getD_some]
    omega
theorem bs_shaped {r : List Bool} (h : r.length ≤ 1000) : SeqAt.shaped (bsD r) = true := shapedT (lay_bs r) (okT_bs (ns := r) 0 h) (by decide)
theorem arows_at2 {K : PySem.W.Frag} {H : Hp} {v : V} {M : Mc} (ok : M.ok) (h : McS (SqT K) H v M) : ∃ a xs z ys a2 us b, v = .ref a ∧ SqT K H a xs ∧ xs[2]? = some (V.ref z) ∧ SqT K H z ys ∧ ys[1]? = some (.int (M.tp.s : Nat)) ∧ ys[4]? = some (V.ref a2) ∧ SqT K H a2 us ∧ us[M.tp.s]? = some (V.ref b) ∧ SqT K H b (bV (M.ans [])) := by
  obtain ⟨a, xs, z, t3, ys, rfl, ha, x2, hz, y1, y4, R3⟩ := mc_tops h
  have o4 := ok.2.2.2
  have hlt : M.tp.s < M.tp.an.length := by
    rw [o4.2.2.2.2.2.2.2.1]
    exact o4.2.2.1
  obtain ⟨a2, ys2, b2, rfl, ha2, hy2, hb2⟩ := arows_at R3 hlt
  refine ⟨a, xs, z, ys, a2, ys2, b2, rfl, ha, x2, hz, y1, y4, ha2, hy2, ?_⟩
  unfold Mc.ans
  simp only [Mc.row]
  exact hb2
end K6

set_option Elab.async false
set_option linter.all false
set_option maxRecDepth 100000
set_option maxHeartbeats 4000000
namespace K6
open PySem PySem.Spec PyProof.Rows L2 So
section
variable {Pg : Program} {w : World} {K : PySem.W.Frag} {mg : Str → Option Value} {base : Heap} {P : Addr}
abbrev sLaw : Stmt := top 54
abbrev nLaw : List Str := ["script", "k", "box", "machine", "turn", "document", "due", "names", "name", "label", "text"]
theorem scLaw : FnScope nLaw ["script"] (defScope sLaw) := ⟨rfl, rfl, rfl, by decide +kernel, rfl, by decide +kernel, by decide +kernel⟩
def spLaw (K : PySem.W.Frag) (P : Addr) : Sp := fun vs H Q _ => GxR.TabG H P ∧ ∃ (a : Addr) (ns : List Int), vs = [.ref a] ∧ SqL K H a (ns.map V.int) ∧ ns.length ≤ 63 ∧ ∀ H', Q (.bl true) H'
theorem ok_law {f fB fP fT fM fC fL fD fA fN fY fS fO fK fOl fOt : Addr} {fd fdB fdP fdT fdM fdC fdL fdD fdA fdN fdY fdS fdO fdK fdOl fdOt : FuncData} (F : Fun K "law" "law" sLaw f fd) (T : Ty K mg)
    (B : Df K mg "_law_box" sBox ["script", "k"] fB fdB) (GB : FnOk Pg w K mg base CX0 1 fB fdB ["script", "k"] (spBox K P))
    (Pk : Df K mg "_law_pick" sPck ["box", "some"] fP fdP) (GP : FnOk Pg w K mg base CX0 2 fP fdP ["box", "some"] spPck)
    (Tk : Df K mg "_law_take" sTak ["box", "many"] fT fdT) (GT : FnOk Pg w K mg base CX0 1 fT fdT ["box", "many"] spTak)
    (Mm : Df K mg "_law_machine" sMac ["box", "tops", "inners", "long"] fM fdM) (GM : FnOk Pg w K mg base CX0 3 fM fdM ["box", "tops", "inners", "long"] (spMac K P))
    (C : Df K mg "check_machine" sChk ["value"] fC fdC) (GC : FnOk Pg w K mg base CX0 6 fC fdC ["value"] (spChk K P)) (KC : KBinds K fdC ["value"] ["value"] g1 g1)
    (Ls : Df K mg "_law_lists" sLls ["value"] fL fdL) (GL : FnOk Pg w K mg base CX0 6 fL fdL ["value"] (spLls K P 5))
    (Ld : Df K mg "_law_document" sLdc ["box", "depth"] fD fdD) (GD : FnOk Pg w K mg base CX0 7 fD fdD ["box", "depth"] (spLdc K P 4))
    (La : Df K mg "_law_answer" sLan ["machine", "document"] fA fdA) (GA : FnOk Pg w K mg base CX0 7 fA fdA ["machine", "document"] (spLan K P 4))
    (An : Df K mg "answer" sAns ["machine", "document"] fN fdN) (GN : FnOk Pg w K mg base CX0 7 fN fdN ["machine", "document"] (spAns K P)) (KN : KBinds K fdN ["machine", "document"] ["document", "machine"] g2 g2)
    (Py : Df K mg "_law_by_pile" sPil ["machine", "signs"] fY fdY) (GY : FnOk Pg w K mg base CX0 2 fY fdY ["machine", "signs"] (spPil K P))
    (Sg : Df K mg "_law_signs" sLsg ["document"] fS fdS) (GS : FnOk Pg w K mg base CX0 6 fS fdS ["document"] (spLsg K P 4))
    (Ko : Df K mg "kind_of" sKnd ["names", "value"] fO fdO) (GO : FnOk Pg w K mg base CX0 1 fO fdO ["names", "value"] (spKnd K P)) (KO : KBinds K fdO ["names", "value"] ["value", "names"] g2 g2)
    (Ki : Df K mg "_law_kind" sKin ["names", "name"] fK fdK) (GK : FnOk Pg w K mg base CX0 1 fK fdK ["names", "name"] (spKnd K P))
    (Ol : Df K mg "other_label" sOlb ["machine"] fOl fdOl) (GOl : FnOk Pg w K mg base CX0 7 fOl fdOl ["machine"] (spOlb K P))
    (Ot : Df K mg "other_text" sOtx ["machine"] fOt fdOt) (GOt : FnOk Pg w K mg base CX0 7 fOt fdOt ["machine"] (spOtx K P)) : SoG.GOk Pg w K mg base f fd (spLaw K P) := by
  refine SoG.law_ok (k := 7) F scLaw ⟨rfl, by decide, by decide⟩ (fun cdv s H v Q E hr h => ?_)
  · obtain ⟨t, a, ns, e0, hS, hlen, kont⟩ := h
    cases e0
    have hu := hr.units
    have hgd : (callerA.deeper (envOfC "law" (defScope sLaw) s.heap.objs.size f cdv)).guards = some [] := rfl
    have r1 : Room 1 _ := hr.mono (by decide)
    have r2 : Room 2 _ := hr.mono (by decide)
    have r3 : Room 3 _ := hr.mono (by decide)
    have r6 : Room 6 _ := hr.mono (by decide)
    refine ⟨_, (pss_cons (ps_for PassesOwn.never rfl (pi_range1 (by rfl) T.T.range (pa_cons pe_int pa_nil)) (pg_name (i := 1) scLaw.nd rfl (Or.inl rfl)) (pss_cons (ps_set (i := 2) scLaw.nd rfl (Or.inl rfl) (pe_call GB r1 (by rfl) B.g B.F.kp B.b .nil pass0 (pa_cons (pv 0) (pa_cons (pv 1) pa_nil))))
      (pss_cons (ps_set (i := 3) scLaw.nd rfl (Or.inl rfl) (pe_call GM r3 (by rfl) Mm.g Mm.F.kp Mm.b .nil pass0 (pa_cons (pv 2) (pa_cons pe_int (pa_cons pe_int (pa_cons (pe_op op_add pe_int (pe_call GT r1 (by rfl) Tk.g Tk.F.kp Tk.b .nil pass0 (pa_cons (pv 2) (pa_cons pe_int pa_nil)))) pa_nil))))))
      (pss_cons (ps_if (PW.pt (pw_or (pt_cmpR (op_neD hu) (pe_call GC r6 (by rfl) C.g C.F.kp C.b .nil pass0 (pa_cons (pe_call GL r6 (by rfl) Ls.g Ls.F.kp Ls.b .nil pass0 (pa_cons (pv 3) pa_nil)) pa_nil)) (pv 3) (nomark _)) (pw_or1 (pt_cmpR (op_neD hu) (pe_callK0 GC r6 (by rfl) C.g C.F.kp KC pass0 (pk_cons (pv 3) pk_nil)) (pv 3) (nomark _))))) pss_never pss_nil)
      (pss_cons (ps_for PassesOwn.never rfl (pi_range1 (by rfl) T.T.range (pa_cons pe_int pa_nil)) (pg_name (i := 4) scLaw.nd rfl (Or.inl rfl)) (pss_cons (ps_set (i := 5) scLaw.nd rfl (Or.inl rfl) (pe_call GD hr (by rfl) Ld.g Ld.F.kp Ld.b .nil pass0 (pa_cons (pv 2) (pa_cons pe_int pa_nil))))
      (pss_cons (ps_set (i := 6) scLaw.nd rfl (Or.inl rfl) (pe_call GA hr (by rfl) La.g La.F.kp La.b .nil pass0 (pa_cons (pv 3) (pa_cons (pv 5) pa_nil))))
      (pss_cons (ps_if (pt_cmpR op_ne (pe_callB (call_reprD hgd hu) (by rfl) T.repr (by decide +kernel) (pa_cons (pe_lst (pa_cons (pe_call GN hr (by rfl) An.g An.F.kp An.b .nil pass0 (pa_cons (pv 3) (pa_cons (pv 5) pa_nil))) (pa_cons (pe_callK0 GN hr (by rfl) An.g An.F.kp KN pass0 (pk_cons (pv 5) (pk_cons (pe_call GL r6 (by rfl) Ls.g Ls.F.kp Ls.b .nil pass0 (pa_cons (pv 3) pa_nil)) pk_nil))) pa_nil))) pa_nil)) (pe_callB (call_reprD hgd hu) (by rfl) T.repr (by decide +kernel) (pa_cons (pe_lst (pa_cons (pv 6) (pa_cons (pv 6) pa_nil))) pa_nil)) (nomark _)) pss_never pss_nil)
      (pss_one (ps_if (pt_cmpR (op_neD hu) (pe_call GY r2 (by rfl) Py.g Py.F.kp Py.b .nil pass0 (pa_cons (pv 3) (pa_cons (pe_call GS r6 (by rfl) Sg.g Sg.F.kp Sg.b .nil pass0 (pa_cons (pv 5) pa_nil)) pa_nil))) (pv 6) (nomark _)) pss_never pss_nil))))))
      (pss_cons (ps_for PassesOwn.never rfl (pi_tup (pe_slice sl_tup (pv 3) po_none (po_some pe_int))) (pg_name (i := 7) scLaw.nd rfl (Or.inl rfl)) (pss_cons (ps_set (i := 8) scLaw.nd rfl (Or.inl rfl) (pe_call GP r2 (by rfl) Pk.g Pk.F.kp Pk.b .nil pass0 (pa_cons (pv 2) (pa_cons (pe_lst (pa_cons pe_str (pa_cons pe_str (pa_cons pe_str (pa_cons pe_str pa_nil))))) pa_nil))))
      (pss_one (ps_if (PW.pt (pw_or (pt_cmpR op_ne (pe_call GO r1 (by rfl) Ko.g Ko.F.kp Ko.b .nil pass0 (pa_cons (pv 7) (pa_cons (pv 8) pa_nil))) (pe_call GK r1 (by rfl) Ki.g Ki.F.kp Ki.b .nil pass0 (pa_cons (pv 7) (pa_cons (pv 8) pa_nil))) (nomark _)) (pw_or1 (pt_cmpR op_ne (pe_callK0 GO r1 (by rfl) Ko.g Ko.F.kp KO pass0 (pk_cons (pv 8) (pk_cons (pv 7) pk_nil))) (pe_call GK r1 (by rfl) Ki.g Ki.F.kp Ki.b .nil pass0 (pa_cons (pv 7) (pa_cons (pv 8) pa_nil))) (nomark _))))) pss_never pss_nil))))
      (pss_cons (ps_par (i := 9) (j := 10) rfl scLaw.nd rfl rfl (by decide) rfl rfl (pa_cons (pe_call GOl hr (by rfl) Ol.g Ol.F.kp Ol.b .nil pass0 (pa_cons (pv 3) pa_nil)) (pa_cons (pe_call GOt hr (by rfl) Ot.g Ot.F.kp Ot.b .nil pass0 (pa_cons (pv 3) pa_nil)) pa_nil)) (by rfl))
      (pss_cons (ps_if (PW.pt (pw_or (pt_cmpR op_in_seq (pv 9) (pe_ix ix_tup (pv 3) pe_int (fun _ _ => rfl)) rfl) (pw_or (pt_cmpR op_in_seq (pv 10) (pe_ix ix_tup (pv 3) pe_int (fun _ _ => rfl)) rfl) (pw_or (pt_cmpR op_notIn_str (pv 9) pe_str rfl) (pw_or (pt_cmpR op_ne (pe_callB call_len_str (by rfl) T.T.len (by decide +kernel) (pa_cons (pv 9) pa_nil)) pe_int (nomark _)) (pw_or1 (pt_cmpR op_notIn_seq (pv 10) (pe_tup (pa_cons pe_str (pa_cons pe_str (pa_cons pe_str pa_nil)))) rfl))))))) pss_never pss_nil)
      (pss_one (ps_if (pt_cmpR (op_neD hu) (pe_call GN hr (by rfl) An.g An.F.kp An.b .nil pass0 (pa_cons (pv 3) (pa_cons (pe_tup pa_nil) pa_nil))) (pe_ix ix_tup (pe_ix ix_tup (pe_ix ix_tup (pv 3) pe_int (fun _ _ => rfl)) pe_int (fun _ _ => rfl)) (pe_ix ix_tup (pe_ix ix_tup (pv 3) pe_int (fun _ _ => rfl)) pe_int (fun _ _ => rfl)) (fun _ _ => rfl)) (nomark _)) pss_never pss_nil))))))))))
      (pss_one (ps_ret pe_bl))), ?_⟩
    have two : 2 ≤ sizeLine := by decide
    have three : 3 ≤ sizeLine := by decide
    have four : 4 ≤ sizeLine := by decide
    refine ⟨3, rfl, by decide, by decide, for_range (lo := 0) (n := 3) (fun i σ H' => (∃ v1 v2 v3 v4 v5 v6 v7 v8 v9 v10 : Option V, σ = [some (.ref a), v1, v2, v3, v4, v5, v6, v7, v8, v9, v10]) ∧ Sm P H H') ⟨⟨none, none, none, none, none, none, none, none, none, none, rfl⟩, Sm.refl t⟩ ?_ ?_⟩
    rotate_left
    · rintro σ G ⟨⟨v1, v2, v3, v4, v5, v6, v7, v8, v9, v10, rfl⟩, s1⟩
      exact kont _
    rintro i σ G hi ⟨⟨v1, v2, v3, v4, v5, v6, v7, v8, v9, v10, rfl⟩, s1⟩
    rw [Int.zero_add]
    -- box = ..
    refine ⟨_, rfl, _, rfl, s1.2, a, ns, i, rfl, s1.lst t hS, hlen, by omega, fun b H1 s2 b0 bP hb => ?_⟩
    have s12 := s1.trans s2
    have bH : H b = none := s1.free t b0
    -- machine = ..
    refine ⟨_, rfl, _, rfl, b, 2, rfl, hb, by decide, by decide, fun r r0 r1' g z g0 z0 z1 => ⟨_, _, rfl, rfl, ?_⟩⟩
    obtain ⟨m, hm, m0, m1⟩ : ∃ m : Nat, 1 + r = (m : Int) ∧ 0 < m ∧ m ≤ 8 := ⟨(1 + r).toNat, by omega, by omega, by omega⟩
    have c1 := SB.draw s2.2 bP g0 z0 z1
    refine ⟨c1.tab, b, 4, 4, m, (by show [V.ref b, V.int 4, V.int 4, V.int (1 + r)] = _; rw [hm]; rfl), c1.box, bP, by decide, by decide, by decide, by decide, m0, m1, fun v G0 M s3 hM ok mL mX => ?_⟩
    have c2 := c1.trans s3
    clear c1 s3 g0 z0 z1 r0 r1' hm
    obtain ⟨c, hc, hcL, hcA, layL⟩ := lab_good mL
    obtain ⟨hno, layX⟩ := txt_good mX
    have lay := mc_lay layL layX
    have shp := shapedT lay (mc_okT ok) (by decide)
    have t0 := c2.tab
    have bx0 := c2.box
    -- check_machine(..) != machine ..
    refine ⟨_, rfl, t0, v, M.D, rfl, mc_dp hM, mc_okT ok, fun v1 H3 s4 hd => ⟨s4.2, _, ⟨v1, M, rfl, mc_back (dp_sub nw_sub _ _ hd), ok, rfl⟩, fun v2 H4 s5 h2 => ⟨_, rfl, M.D, M.D, mc_dp h2, mc_dp (hM.mono mo_tup t0 (s4.trans s5)), shp, shp, false, congrArg V.bl (eqvT lay), iteF ?_⟩⟩⟩
    have s45 := s4.trans s5
    refine ⟨_, rfl, s45.2, _, ⟨v, M, rfl, mc_sq (hM.mono mo_tup t0 s45), ok, rfl⟩, fun v3 H5 s6 h3 => ⟨_, rfl, M.D, M.D, mc_dp h3, mc_dp (hM.mono mo_tup t0 (s45.trans s6)), shp, shp, false, congrArg V.bl (eqvT lay), iteF ?_⟩⟩
    have d5 := SB.sm bx0 t0 (s45.trans s6)
    clear h2 h3 hd
    have hM5 := mc_tp (d5.tp t0 bx0) hM
    have c5 := c2.trans d5
    have t5 := c5.tab
    have bx5 := c5.box
    clear d5 hM t0 bx0 c2 s4 s5 s45 s6
    -- for turn ..
    refine ⟨4, rfl, by decide, by decide, for_range (lo := 0) (n := 4) (fun j σ G => (∃ v4 v5 v6 : Option V, σ = [some (.ref a), some (.int (i : Nat)), some (.ref b), some v, v4, v5, v6, v7, v8, v9, v10]) ∧ SB P b H5 G) ⟨⟨v4, v5, v6, rfl⟩, SB.refl t5 bx5⟩ ?_ ?_⟩
    · rintro j σ G hj ⟨⟨v4, v5, v6, rfl⟩, q1⟩
      have hMG := mc_tp (q1.tp t5 bx5) hM5
      -- document = ..
      refine ⟨_, rfl, q1.tab, b, 3, rfl, q1.box, bP, by decide, fun dv G1 ds q2 hdv hds => ?_⟩
      obtain ⟨zd, ws, rfl, hz, hws⟩ := dp_tup hdv
      have hM1 := mc_tp (q2.tp q1.tab q1.box) hMG
      have dl : (sgs ds).length ≤ 1000 := Nat.le_trans hds.2.1 (by decide)
      have dh : hiS ds < 4 := by have := hds.2.2; omega
      have l8 := ans_len ok ds
      -- due = ..
      refine ⟨_, rfl, _, rfl, q2.tab, _, ⟨v, M, zd, ws, ds, rfl, hM1, ok, hz, hws, dh, rfl⟩, fun due G2 q3 hdue => ?_⟩
      obtain ⟨zu, rfl, hzu⟩ := hdue
      have hM2 := hM1.mono mo_tup q2.tab q3
      have hz2 := q3.tup q2.tab hz
      have hws2 := nds_tp (Tp.sm q2.tab q3) _ _ hws
      -- repr ..
      refine ⟨_, rfl, _, rfl, q3.2, _, ⟨v, zd, ws, M, ds, rfl, mc_sq hM2, ok, hz2, hws2, hds.1, dl, rfl⟩, fun a1 G3 q4 h4 => ?_⟩
      have q24 := q4
      refine ⟨_, rfl, _, rfl, q4.2, v, M.D, rfl, mc_dp (hM2.mono mo_tup q3.2 q4), mc_okT ok, fun w1 G4 q5 hd5 => ?_⟩
      have q25 := q4.trans q5
      refine ⟨q5.2, _, ⟨w1, zd, ws, M, ds, rfl, mc_back (dp_sub nw_sub _ _ hd5), ok, q25.tup q3.2 hz2, nds_tp (Tp.sm q3.2 q25) _ _ hws2, hds.1, dl, rfl⟩, fun a2 G5 q6 h6 => ?_⟩
      have q26 := q25.trans q6
      refine ⟨two, fun l hl => ?_⟩
      have q7 := Sm.new (o := .lst [a1, a2]) q6.2 hl
      have e1 := it_bs (h4.mono mo_tup q4.2 ((q5.trans q6).trans q7))
      have e2 := it_bs (h6.mono mo_tup q6.2 q7)
      refine ⟨l, twoD (M.ans ds), rfl, .lst (SqL.of upd_same) (.cons e1 (.cons e2 .nil)), two_show _, two_dict _, two_deep _, two_fits (by omega), _, rfl, _, rfl, two, fun l2 hl2 => ?_⟩
      have q27 := q26.trans q7
      have q8 := Sm.new (o := .lst [.ref zu, .ref zu]) q7.2 hl2
      have q28 := q27.trans q8
      have e3 := it_bs (K := K) ⟨zu, rfl, q28.tup q3.2 hzu⟩
      refine ⟨l2, twoD (M.ans ds), rfl, .lst (SqL.of upd_same) (.cons e3 (.cons e3 .nil)), two_show _, two_dict _, two_deep _, two_fits (by omega), rfl, false, ?_, iteF ?_⟩
      · rw [decide_eq_true rfl]
        rfl
      -- by pile ..
      refine ⟨_, rfl, _, rfl, q28.2, _, ⟨zd, ws, ds, rfl, q28.tup q3.2 hz2, nds_tp (Tp.sm q3.2 q28) _ _ hws2, dh, dl, rfl⟩, fun sv G6 q9 hsv => ?_⟩
      obtain ⟨qs, ys, rfl, hys, hps⟩ := hsv
      have q29 := q28.trans q9
      refine ⟨q9.2, _, ⟨v, M, qs, ys, ds, rfl, hM2.mono mo_tup q3.2 q29, ok, SqL.of hys, hps, dl, rfl⟩, fun pv G7 q10 hp => ?_⟩
      have q210 := q29.trans q10
      refine ⟨_, rfl, bsD (M.ans ds), bsD (M.ans ds), it_bs hp, it_bs ⟨zu, rfl, q210.tup q3.2 hzu⟩, bs_shaped (by omega), bs_shaped (by omega), false, congrArg V.bl (eqvT (lay_bs _)), iteF ?_⟩
      exact ⟨⟨_, _, _, rfl⟩, q1.trans (q2.trans (SB.sm q2.box q2.tab (q3.trans q210)))⟩
    rintro σ G ⟨⟨v4, v5, v6, rfl⟩, q1⟩
    have c6 := c5.trans q1
    have hM6 := mc_tp (q1.tp t5 bx5) hM5
    have t6 := c6.tab
    have bx6 := c6.box
    clear q1 hM5 c5 t5 bx5
    -- for names ..
    obtain ⟨a0, vL, vX, vT, vI, rfl, ha0, ⟨bL, rfl, hbL⟩, ⟨bX, rfl, hbX⟩, hT, hI⟩ := _root_.id hM6
    have fL := okL6 ok
    have fX := okX4 ok
    refine ⟨_, rfl, 2, rfl, a0, _, rfl, ha0, (by show ¬ (HT.sIx 4 0 none = 0 ∧ HT.sIx 4 4 (some 2) = 4); decide), fun p hp => ?_⟩
    have n1 := Sm.new (o := .tup [.ref bL, .ref bX]) t6 hp
    have d1 := SB.sm bx6 t6 n1
    refine ⟨p, rfl, ⟨_, .inl (.inl upd_same)⟩, for_tup (xs := [.ref bL, .ref bX]) (fun j σ G' => (∃ v7 v8 : Option V, σ = [some (.ref a), some (.int (i : Nat)), some (.ref b), some (.ref a0), v4, v5, v6, v7, v8, v9, v10]) ∧ SB P b G G' ∧ SqT K G' p [.ref bL, .ref bX])
      ⟨⟨v7, v8, rfl⟩, d1, .inl (.inl upd_same)⟩ (fun j σ G' _ ⟨_, _, q⟩ => q) ?_ ?_⟩
    · rintro j x σ G' hx ⟨⟨v7, v8, rfl⟩, q1, qp⟩
      obtain ⟨bN, N, rfl, hN, lN⟩ : ∃ bN N, x = .ref bN ∧ SqT K G' bN (sV N) ∧ N.length ≤ 100 := by
        have tp := q1.tp t6 bx6
        match j, hx with
        | 0, hx => cases hx; exact ⟨bL, M.L, rfl, tp.sq hbL, by omega⟩
        | 1, hx => cases hx; exact ⟨bX, M.X, rfl, tp.sq hbX, by omega⟩
        | j + 2, hx => cases hx
      refine ⟨_, rfl, four, fun l hl => ?_⟩
      have n2 := Sm.new (o := .lst (sV ["a", "b", "x", "zz"])) q1.tab hl
      have q2 := SB.sm q1.box q1.tab n2
      refine ⟨b, l, sV ["a", "b", "x", "zz"], rfl, q2.box, upd_same, box_ne q1.box hl, (by show 0 < 4; decide), (by show 4 < 1000; decide), fun j2 u hu2 g z g0 z0 z1 => ?_⟩
      obtain ⟨nm, _, rfl⟩ := sV_at hu2
      have q3 := q2.trans (SB.draw q2.tab bP g0 z0 z1)
      have hN3 := (q3.tp q1.tab q1.box).sq hN
      have qp3 := (q3.tp q1.tab q1.box).sq qp
      refine ⟨_, rfl, _, rfl, q3.tab, _, ⟨bN, N, nm, rfl, hN3, lN, rfl⟩, fun k1 G1 s4 e1 => ?_⟩
      subst e1
      refine ⟨_, rfl, _, rfl, s4.2, _, ⟨bN, N, nm, rfl, s4.tup q3.tab hN3, lN, rfl⟩, fun k2 G2 s5 e2 => ?_⟩
      subst e2
      have s45 := s4.trans s5
      refine ⟨rfl, false, ?_, iteF ?_⟩
      · rw [decide_eq_true rfl]
        rfl
      refine ⟨_, rfl, _, rfl, s45.2, _, ⟨bN, N, nm, rfl, s45.tup q3.tab hN3, lN, rfl⟩, fun k3 G3 s6 e3 => ?_⟩
      subst e3
      have s46 := s45.trans s6
      refine ⟨_, rfl, _, rfl, s46.2, _, ⟨bN, N, nm, rfl, s46.tup q3.tab hN3, lN, rfl⟩, fun k4 G4 s7 e4 => ?_⟩
      subst e4
      have s47 := s46.trans s7
      refine ⟨rfl, false, ?_, iteF ?_⟩
      · rw [decide_eq_true rfl]
        rfl
      exact ⟨⟨_, _, rfl⟩, (q1.trans q3).trans (SB.sm q3.box q3.tab s47), s47.tup q3.tab qp3⟩
    rintro σ G' ⟨⟨v7, v8, rfl⟩, q1, _⟩
    have c7 := c6.trans q1
    have hM7 := mc_tp (q1.tp t6 bx6) hM6
    have t7 := c7.tab
    clear q1 hM6 c6 t6 bx6 ha0 hbL hbX hT hI hp n1 d1
    -- label, text = ..
    refine ⟨_, rfl, t7, _, ⟨_, M, c, rfl, mc_sq hM7, ok, hc, rfl⟩, fun lv G1 s1' e1 => ?_⟩
    subst e1
    refine ⟨_, rfl, s1'.2, _, ⟨_, M, rfl, mc_sq (hM7.mono mo_tup t7 s1'), ok, hno, rfl⟩, fun tv G2 s2' e2 => ?_⟩
    subst e2
    have s3' := s1'.trans s2'
    have hM8 := hM7.mono mo_tup t7 s3'
    refine ⟨_, _, rfl, ?_⟩
    obtain ⟨a0', vL, vX, vT, vI, e0, ha0, ⟨bL, rfl, hbL⟩, ⟨bX, rfl, hbX⟩, hT, hI⟩ := _root_.id hM8
    cases e0
    refine ⟨_, rfl, _, rfl, a0, _, _, _, rfl, rfl, ha0, atI_nat (j := 0) rfl, bL, sV M.L, rfl, .inr hbL, rfl, sV_flat _, false, ?_, iteF ?_⟩
    · show V.bl (inV (.str ⟨#[c]⟩) (sV M.L)) = V.bl false
      rw [inV_str, decide_eq_false hcL]
    refine ⟨_, rfl, _, rfl, a0, _, _, _, rfl, rfl, ha0, atI_nat (j := 1) rfl, bX, sV M.X, rfl, .inr hbX, rfl, sV_flat _, false, ?_, iteF ?_⟩
    · show V.bl (inV (.str "") (sV M.X)) = V.bl false
      rw [inV_str, decide_eq_false hno]
    refine ⟨_, rfl, ⟨#[c]⟩, "abc", rfl, rfl, false, ?_, iteF ?_⟩
    · rw [hcA]
      rfl
    refine ⟨_, rfl, ⟨#[c]⟩, rfl, (by show 1 ≤ sizeLine; decide), rfl, false, rfl, iteF ?_⟩
    refine ⟨_, rfl, three, fun q hq => ?_⟩
    have s4' := s3'.trans (Sm.new (o := .tup (sV ["", "a", "aa"])) s3'.2 hq)
    refine ⟨q, sV ["", "a", "aa"], rfl, .inr (.inl (.inl upd_same)), rfl, sV_flat _, false, ?_, iteF ?_⟩
    · show V.bl (!inV (.str "") (sV ["", "a", "aa"])) = V.bl false
      rw [inV_str, decide_eq_true (List.mem_cons_self ..)]
      rfl
    -- answer(machine, ())
    refine ⟨_, rfl, Nat.zero_le _, fun q2 hq2 => ?_⟩
    have s5' := s4'.trans (Sm.new (o := .tup []) s4'.2 hq2)
    refine ⟨s5'.2, _, ⟨_, q2, [], M, [], rfl, mc_sq (hM7.mono mo_tup t7 s5'), ok, .inl (.inl upd_same), (by rw [ndsD]; exact .nil), rfl, (by decide), rfl⟩, fun av G3 s6' h6 => ?_⟩
    have s7' := s5'.trans s6'
    obtain ⟨a9, xs9, z9, ys9, a2, us9, b9, e9, g1, g2', g3, g4, g5, g6, g7, g8⟩ := arows_at2 ok (hM7.mono mo_tup t7 s7')
    cases e9
    have l8 := ans_len ok []
    refine ⟨_, rfl, a0, _, _, _, rfl, rfl, g1, atI_nat (j := 2) g2', z9, _, _, _, rfl, rfl, g3, atI_nat (j := 4) g5, _, rfl, a0, _, _, _, rfl, rfl, g1, atI_nat (j := 2) g2', z9, _, _, _, rfl, rfl, g3, atI_nat (j := 1) g4, a2, _, _, _, rfl, rfl, g6, atI_nat g7, bsD (M.ans []), bsD (M.ans []), it_bs h6, it_bs ⟨b9, rfl, g8⟩, bs_shaped (by omega), bs_shaped (by omega), false, congrArg V.bl (eqvT (lay_bs _)), iteF ?_⟩
    exact ⟨⟨_, _, _, _, _, _, _, _, _, _, rfl⟩, (SB.to s12 bH c7).trans s7'⟩
end
end K6

set_option Elab.async false
set_option linter.all false
set_option maxRecDepth 100000
set_option maxHeartbeats 8000000
namespace K6
open PySem PySem.Spec PyProof.Rows L2 So
theorem tab_mk {K : PySem.W.Frag} {x : Str} {f c P : Addr} {o1 : Value} {o2 : Option Addr} {o3 : Array (Option Value)} {fd : FuncData} {e1 : Value} {e2 : Option Addr} {vs : Array Value} {e3 : Array (Option Value)} (a : PySem.W.nsIn K mainGlobals x = some (some (.ref f))) (l : K.lookup f = some ⟨o1, o2, .func fd, o3⟩) (hc : fd.code = .ref c)
    (lc : K.lookup c = some ⟨e1, e2, .fields vs, e3⟩) (hp : vs[11]? = some (.ref P)) : PySem.W.tabIn K x = some (c, P) := by
  unfold PySem.W.tabIn
  rw [a]
  dsimp only
  rw [l]
  dsimp only
  rw [hc]
  dsimp only
  rw [lc]
  dsimp only
  rw [hp]
/-- what is known of the program behind its top -/
def Known (Pg : Program) (w : World) (K : PySem.W.Frag) (mg : Str → Option Value) (fa : Addr) : Prop := ∃ (c P : Addr) (fd : FuncData), PySem.W.tabIn K "is_label" = some (c, P) ∧ K.lookup P = none ∧ (∀ (s : Shared) (u : Value), BindsTo s fd ⟨[u], []⟩ [("script", u)]) ∧
  ∀ base : Heap, K.In base → base.Ns mainGlobals mg → GxR.TabB base mg c P → SoG.GOk Pg w K mg base fa fd (spLaw K P)
theorem all_mk {Pg : Program} {w : World} {K : PySem.W.Frag} {h : Heap} {mg : Str → Option Value} {fa c P : Addr} (X : K.In h) (G : h.Ns mainGlobals mg) (hfa : mg "law" = some (.ref fa))
    {f1 f2 f3 f4 f5 f6 f7 f8 f9 f10 f11 f12 f13 f14 f15 f16 f17 f18 f19 f20 f21 f22 f23 f24 f25 f26 f27 f28 f29 f30 f31 f32 f33 f34 f35 f36 f37 f38 f39 : Addr}
    {od1 an1 od2 an2 od3 an3 od4 an4 od5 an5 od6 an6 od7 an7 od8 an8 od9 an9 od10 an10 od11 an11 od12 an12 od13 an13 od14 an14 od15 an15 od16 an16 od17 an17 od18 an18 od19 an19 od20 an20 od21 an21 od22 an22 od23 an23 od24 an24 od25 an25 od26 an26 od27 an27 od28 an28 od29 an29 od30 an30 od31 an31 od32 an32 od33 an33 od34 an34 od35 an35 od36 an36 od37 an37 od38 an38 od39 an39 : Option Addr} {sl1 sl2 sl3 sl4 sl5 sl6 sl7 sl8 sl9 sl10 sl11 sl12 sl13 sl14 sl15 sl16 sl17 sl18 sl19 sl20 sl21 sl22 sl23 sl24 sl25 sl26 sl27 sl28 sl29 sl30 sl31 sl32 sl33 sl34 sl35 sl36 sl37 sl38 sl39 : Array (Option Value)} {oc1 kV1 dc1 pm1 ct1 oc2 kV2 dc2 pm2 ct2 oc3 kV3 dc3 pm3 ct3 oc4 kV4 dc4 pm4 ct4 oc5 kV5 dc5 pm5 ct5 oc6 kV6 dc6 pm6 ct6 oc7 kV7 dc7 pm7 ct7 oc8 kV8 dc8 pm8 ct8 oc9 kV9 dc9 pm9 ct9 oc10 kV10 dc10 pm10 ct10 oc11 kV11 dc11 pm11 ct11 oc12 kV12 dc12 pm12 ct12 oc13 kV13 dc13 pm13 ct13 oc14 kV14 dc14 pm14 ct14 oc15 kV15 dc15 pm15 ct15 oc16 kV16 dc16 pm16 ct16 oc17 kV17 dc17 pm17 ct17 oc18 kV18 dc18 pm18 ct18 oc19 kV19 dc19 pm19 ct19 oc20 kV20 dc20 pm20 ct20 oc21 kV21 dc21 pm21 ct21 oc22 kV22 dc22 pm22 ct22 oc23 kV23 dc23 pm23 ct23 oc24 kV24 dc24 pm24 ct24 oc25 kV25 dc25 pm25 ct25 oc26 kV26 dc26 pm26 ct26 oc27 kV27 dc27 pm27 ct27 oc28 kV28 dc28 pm28 ct28 oc29 kV29 dc29 pm29 ct29 oc30 kV30 dc30 pm30 ct30 oc31 kV31 dc31 pm31 ct31 oc32 kV32 dc32 pm32 ct32 oc33 kV33 dc33 pm33 ct33 oc34 kV34 dc34 pm34 ct34 oc35 kV35 dc35 pm35 ct35 oc36 kV36 dc36 pm36 ct36 oc37 kV37 dc37 pm37 ct37 oc38 kV38 dc38 pm38 ct38 oc39 kV39 dc39 pm39 ct39 cd1 cd2 cd3 cd4 cd6 cd7 cd8 cd9 cd10 cd11 cd12 cd13 cd14 cd15 cd16 cd17 cd18 cd19 cd20 cd21 cd22 cd23 cd24 cd25 cd26 cd27 cd28 cd29 cd30 cd31 cd32 cd33 cd34 cd35 cd36 cd37 cd38 cd39 : Value}
    {e1 : Value} {e2 : Option Addr} {vs : Array Value} {e3 : Array (Option Value)} {tL tM tT t3 t4 t5 t6 : Tok}
    (a1 : PySem.W.nsIn K mainGlobals "is_number" = some (some (.ref f1))) (l1 : K.lookup f1 = some ⟨oc1, od1, .func (PySem.W.fnOf "is_number" "is_number" (defArgs sNum) (defBody sNum) (defScope sNum) .none kV1 dc1 pm1 an1 cd1 ct1), sl1⟩) (c1 : PySem.W.codeIn K cd1 "is_number" = true) (k1 : PySem.W.keepIn K (.ref f1) = true)
    (a2 : PySem.W.nsIn K mainGlobals "is_number_below" = some (some (.ref f2))) (l2 : K.lookup f2 = some ⟨oc2, od2, .func (PySem.W.fnOf "is_number_below" "is_number_below" (defArgs sNub) (defBody sNub) (defScope sNub) .none kV2 dc2 pm2 an2 cd2 ct2), sl2⟩) (c2 : PySem.W.codeIn K cd2 "is_number_below" = true) (k2 : PySem.W.keepIn K (.ref f2) = true)
    (a3 : PySem.W.nsIn K mainGlobals "is_sequence" = some (some (.ref f3))) (l3 : K.lookup f3 = some ⟨oc3, od3, .func (PySem.W.fnOf "is_sequence" "is_sequence" (defArgs sSeq) (defBody sSeq) (defScope sSeq) .none kV3 dc3 pm3 an3 cd3 ct3), sl3⟩) (c3 : PySem.W.codeIn K cd3 "is_sequence" = true) (k3 : PySem.W.keepIn K (.ref f3) = true)
    (a4 : PySem.W.nsIn K mainGlobals "is_row_of" = some (some (.ref f4))) (l4 : K.lookup f4 = some ⟨oc4, od4, .func (PySem.W.fnOf "is_row_of" "is_row_of" (defArgs sRow) (defBody sRow) (defScope sRow) .none kV4 dc4 pm4 an4 cd4 ct4), sl4⟩) (c4 : PySem.W.codeIn K cd4 "is_row_of" = true) (k4 : PySem.W.keepIn K (.ref f4) = true)
    (a5 : PySem.W.nsIn K mainGlobals "is_label" = some (some (.ref f5))) (l5 : K.lookup f5 = some ⟨oc5, od5, .func (PySem.W.fnOf "is_label" "is_label" (defArgs sLab) (defBody sLab) (defScope sLab) .none kV5 dc5 pm5 an5 (.ref c) ct5), sl5⟩) (c5 : PySem.W.codeIn K (.ref c) "is_label" = true) (k5 : PySem.W.keepIn K (.ref f5) = true)
    (a6 : PySem.W.nsIn K mainGlobals "is_text" = some (some (.ref f6))) (l6 : K.lookup f6 = some ⟨oc6, od6, .func (PySem.W.fnOf "is_text" "is_text" (defArgs sTxt) (defBody sTxt) (defScope sTxt) .none kV6 dc6 pm6 an6 cd6 ct6), sl6⟩) (c6 : PySem.W.codeIn K cd6 "is_text" = true) (k6 : PySem.W.keepIn K (.ref f6) = true)
    (a7 : PySem.W.nsIn K mainGlobals "_is_text_node" = some (some (.ref f7))) (l7 : K.lookup f7 = some ⟨oc7, od7, .func (PySem.W.fnOf "_is_text_node" "_is_text_node" (defArgs sItn) (defBody sItn) (defScope sItn) .none kV7 dc7 pm7 an7 cd7 ct7), sl7⟩) (c7 : PySem.W.codeIn K cd7 "_is_text_node" = true) (k7 : PySem.W.keepIn K (.ref f7) = true)
    (a8 : PySem.W.nsIn K mainGlobals "_is_element_node" = some (some (.ref f8))) (l8 : K.lookup f8 = some ⟨oc8, od8, .func (PySem.W.fnOf "_is_element_node" "_is_element_node" (defArgs sIen') (defBody sIen') (defScope sIen') .none kV8 dc8 pm8 an8 cd8 ct8), sl8⟩) (c8 : PySem.W.codeIn K cd8 "_is_element_node" = true) (k8 : PySem.W.keepIn K (.ref f8) = true)
    (a9 : PySem.W.nsIn K mainGlobals "signs_of" = some (some (.ref f9))) (l9 : K.lookup f9 = some ⟨oc9, od9, .func (PySem.W.fnOf "signs_of" "signs_of" (defArgs sSig) (defBody sSig) (defScope sSig) .none kV9 dc9 pm9 an9 cd9 ct9), sl9⟩) (c9 : PySem.W.codeIn K cd9 "signs_of" = true) (k9 : PySem.W.keepIn K (.ref f9) = true)
    (a10 : PySem.W.nsIn K mainGlobals "are_labels" = some (some (.ref f10))) (l10 : K.lookup f10 = some ⟨oc10, od10, .func (PySem.W.fnOf "are_labels" "are_labels" (defArgs sAlb) (defBody sAlb) (defScope sAlb) .none kV10 dc10 pm10 an10 cd10 ct10), sl10⟩) (c10 : PySem.W.codeIn K cd10 "are_labels" = true) (k10 : PySem.W.keepIn K (.ref f10) = true)
    (a11 : PySem.W.nsIn K mainGlobals "are_texts" = some (some (.ref f11))) (l11 : K.lookup f11 = some ⟨oc11, od11, .func (PySem.W.fnOf "are_texts" "are_texts" (defArgs sAtx) (defBody sAtx) (defScope sAtx) .none kV11 dc11 pm11 an11 cd11 ct11), sl11⟩) (c11 : PySem.W.codeIn K cd11 "are_texts" = true) (k11 : PySem.W.keepIn K (.ref f11) = true)
    (a12 : PySem.W.nsIn K mainGlobals "_is_ascending" = some (some (.ref f12))) (l12 : K.lookup f12 = some ⟨oc12, od12, .func (PySem.W.fnOf "_is_ascending" "_is_ascending" (defArgs sAsc) (defBody sAsc) (defScope sAsc) .none kV12 dc12 pm12 an12 cd12 ct12), sl12⟩) (c12 : PySem.W.codeIn K cd12 "_is_ascending" = true) (k12 : PySem.W.keepIn K (.ref f12) = true)
    (a13 : PySem.W.nsIn K mainGlobals "is_state_count" = some (some (.ref f13))) (l13 : K.lookup f13 = some ⟨oc13, od13, .func (PySem.W.fnOf "is_state_count" "is_state_count" (defArgs sStc) (defBody sStc) (defScope sStc) .none kV13 dc13 pm13 an13 cd13 ct13), sl13⟩) (c13 : PySem.W.codeIn K cd13 "is_state_count" = true) (k13 : PySem.W.keepIn K (.ref f13) = true)
    (a14 : PySem.W.nsIn K mainGlobals "is_map" = some (some (.ref f14))) (l14 : K.lookup f14 = some ⟨oc14, od14, .func (PySem.W.fnOf "is_map" "is_map" (defArgs sMap) (defBody sMap) (defScope sMap) .none kV14 dc14 pm14 an14 cd14 ct14), sl14⟩) (c14 : PySem.W.codeIn K cd14 "is_map" = true) (k14 : PySem.W.keepIn K (.ref f14) = true)
    (a15 : PySem.W.nsIn K mainGlobals "are_maps" = some (some (.ref f15))) (l15 : K.lookup f15 = some ⟨oc15, od15, .func (PySem.W.fnOf "are_maps" "are_maps" (defArgs sMps) (defBody sMps) (defScope sMps) .none kV15 dc15 pm15 an15 cd15 ct15), sl15⟩) (c15 : PySem.W.codeIn K cd15 "are_maps" = true) (k15 : PySem.W.keepIn K (.ref f15) = true)
    (a16 : PySem.W.nsIn K mainGlobals "are_answers" = some (some (.ref f16))) (l16 : K.lookup f16 = some ⟨oc16, od16, .func (PySem.W.fnOf "are_answers" "are_answers" (defArgs sAan) (defBody sAan) (defScope sAan) .none kV16 dc16 pm16 an16 cd16 ct16), sl16⟩) (c16 : PySem.W.codeIn K cd16 "are_answers" = true) (k16 : PySem.W.keepIn K (.ref f16) = true)
    (a17 : PySem.W.nsIn K mainGlobals "is_answer" = some (some (.ref f17))) (l17 : K.lookup f17 = some ⟨oc17, od17, .func (PySem.W.fnOf "is_answer" "is_answer" (defArgs sIan) (defBody sIan) (defScope sIan) .none kV17 dc17 pm17 an17 cd17 ct17), sl17⟩) (c17 : PySem.W.codeIn K cd17 "is_answer" = true) (k17 : PySem.W.keepIn K (.ref f17) = true)
    (a18 : PySem.W.nsIn K mainGlobals "are_inners" = some (some (.ref f18))) (l18 : K.lookup f18 = some ⟨oc18, od18, .func (PySem.W.fnOf "are_inners" "are_inners" (defArgs sInn) (defBody sInn) (defScope sInn) .none kV18 dc18 pm18 an18 cd18 ct18), sl18⟩) (c18 : PySem.W.codeIn K cd18 "are_inners" = true) (k18 : PySem.W.keepIn K (.ref f18) = true)
    (a19 : PySem.W.nsIn K mainGlobals "are_tops" = some (some (.ref f19))) (l19 : K.lookup f19 = some ⟨oc19, od19, .func (PySem.W.fnOf "are_tops" "are_tops" (defArgs sTop) (defBody sTop) (defScope sTop) .none kV19 dc19 pm19 an19 cd19 ct19), sl19⟩) (c19 : PySem.W.codeIn K cd19 "are_tops" = true) (k19 : PySem.W.keepIn K (.ref f19) = true)
    (a20 : PySem.W.nsIn K mainGlobals "as_tuples" = some (some (.ref f20))) (l20 : K.lookup f20 = some ⟨oc20, od20, .func (PySem.W.fnOf "as_tuples" "as_tuples" (defArgs sAst) (defBody sAst) (defScope sAst) .none kV20 dc20 pm20 an20 cd20 ct20), sl20⟩) (c20 : PySem.W.codeIn K cd20 "as_tuples" = true) (k20 : PySem.W.keepIn K (.ref f20) = true)
    (a21 : PySem.W.nsIn K mainGlobals "check_machine" = some (some (.ref f21))) (l21 : K.lookup f21 = some ⟨oc21, od21, .func (PySem.W.fnOf "check_machine" "check_machine" (defArgs sChk) (defBody sChk) (defScope sChk) .none kV21 dc21 pm21 an21 cd21 ct21), sl21⟩) (c21 : PySem.W.codeIn K cd21 "check_machine" = true) (k21 : PySem.W.keepIn K (.ref f21) = true)
    (a22 : PySem.W.nsIn K mainGlobals "kind_of" = some (some (.ref f22))) (l22 : K.lookup f22 = some ⟨oc22, od22, .func (PySem.W.fnOf "kind_of" "kind_of" (defArgs sKnd) (defBody sKnd) (defScope sKnd) .none kV22 dc22 pm22 an22 cd22 ct22), sl22⟩) (c22 : PySem.W.codeIn K cd22 "kind_of" = true) (k22 : PySem.W.keepIn K (.ref f22) = true)
    (a23 : PySem.W.nsIn K mainGlobals "answer" = some (some (.ref f23))) (l23 : K.lookup f23 = some ⟨oc23, od23, .func (PySem.W.fnOf "answer" "answer" (defArgs sAns) (defBody sAns) (defScope sAns) .none kV23 dc23 pm23 an23 cd23 ct23), sl23⟩) (c23 : PySem.W.codeIn K cd23 "answer" = true) (k23 : PySem.W.keepIn K (.ref f23) = true)
    (a24 : PySem.W.nsIn K mainGlobals "label_beside" = some (some (.ref f24))) (l24 : K.lookup f24 = some ⟨oc24, od24, .func (PySem.W.fnOf "label_beside" "label_beside" (defArgs sLbs) (defBody sLbs) (defScope sLbs) .none kV24 dc24 pm24 an24 cd24 ct24), sl24⟩) (c24 : PySem.W.codeIn K cd24 "label_beside" = true) (k24 : PySem.W.keepIn K (.ref f24) = true)
    (a25 : PySem.W.nsIn K mainGlobals "text_beside" = some (some (.ref f25))) (l25 : K.lookup f25 = some ⟨oc25, od25, .func (PySem.W.fnOf "text_beside" "text_beside" (defArgs sTbs) (defBody sTbs) (defScope sTbs) .none kV25 dc25 pm25 an25 cd25 ct25), sl25⟩) (c25 : PySem.W.codeIn K cd25 "text_beside" = true) (k25 : PySem.W.keepIn K (.ref f25) = true)
    (a26 : PySem.W.nsIn K mainGlobals "other_label" = some (some (.ref f26))) (l26 : K.lookup f26 = some ⟨oc26, od26, .func (PySem.W.fnOf "other_label" "other_label" (defArgs sOlb) (defBody sOlb) (defScope sOlb) .none kV26 dc26 pm26 an26 cd26 ct26), sl26⟩) (c26 : PySem.W.codeIn K cd26 "other_label" = true) (k26 : PySem.W.keepIn K (.ref f26) = true)
    (a27 : PySem.W.nsIn K mainGlobals "other_text" = some (some (.ref f27))) (l27 : K.lookup f27 = some ⟨oc27, od27, .func (PySem.W.fnOf "other_text" "other_text" (defArgs sOtx) (defBody sOtx) (defScope sOtx) .none kV27 dc27 pm27 an27 cd27 ct27), sl27⟩) (c27 : PySem.W.codeIn K cd27 "other_text" = true) (k27 : PySem.W.keepIn K (.ref f27) = true)
    (a28 : PySem.W.nsIn K mainGlobals "_law_box" = some (some (.ref f28))) (l28 : K.lookup f28 = some ⟨oc28, od28, .func (PySem.W.fnOf "_law_box" "_law_box" (defArgs sBox) (defBody sBox) (defScope sBox) .none kV28 dc28 pm28 an28 cd28 ct28), sl28⟩) (c28 : PySem.W.codeIn K cd28 "_law_box" = true) (k28 : PySem.W.keepIn K (.ref f28) = true)
    (a29 : PySem.W.nsIn K mainGlobals "_law_take" = some (some (.ref f29))) (l29 : K.lookup f29 = some ⟨oc29, od29, .func (PySem.W.fnOf "_law_take" "_law_take" (defArgs sTak) (defBody sTak) (defScope sTak) .none kV29 dc29 pm29 an29 cd29 ct29), sl29⟩) (c29 : PySem.W.codeIn K cd29 "_law_take" = true) (k29 : PySem.W.keepIn K (.ref f29) = true)
    (a30 : PySem.W.nsIn K mainGlobals "_law_pick" = some (some (.ref f30))) (l30 : K.lookup f30 = some ⟨oc30, od30, .func (PySem.W.fnOf "_law_pick" "_law_pick" (defArgs sPck) (defBody sPck) (defScope sPck) .none kV30 dc30 pm30 an30 cd30 ct30), sl30⟩) (c30 : PySem.W.codeIn K cd30 "_law_pick" = true) (k30 : PySem.W.keepIn K (.ref f30) = true)
    (a31 : PySem.W.nsIn K mainGlobals "_law_machine" = some (some (.ref f31))) (l31 : K.lookup f31 = some ⟨oc31, od31, .func (PySem.W.fnOf "_law_machine" "_law_machine" (defArgs sMac) (defBody sMac) (defScope sMac) .none kV31 dc31 pm31 an31 cd31 ct31), sl31⟩) (c31 : PySem.W.codeIn K cd31 "_law_machine" = true) (k31 : PySem.W.keepIn K (.ref f31) = true)
    (a32 : PySem.W.nsIn K mainGlobals "_law_document" = some (some (.ref f32))) (l32 : K.lookup f32 = some ⟨oc32, od32, .func (PySem.W.fnOf "_law_document" "_law_document" (defArgs sLdc) (defBody sLdc) (defScope sLdc) .none kV32 dc32 pm32 an32 cd32 ct32), sl32⟩) (c32 : PySem.W.codeIn K cd32 "_law_document" = true) (k32 : PySem.W.keepIn K (.ref f32) = true)
    (a33 : PySem.W.nsIn K mainGlobals "_law_kind" = some (some (.ref f33))) (l33 : K.lookup f33 = some ⟨oc33, od33, .func (PySem.W.fnOf "_law_kind" "_law_kind" (defArgs sKin) (defBody sKin) (defScope sKin) .none kV33 dc33 pm33 an33 cd33 ct33), sl33⟩) (c33 : PySem.W.codeIn K cd33 "_law_kind" = true) (k33 : PySem.W.keepIn K (.ref f33) = true)
    (a34 : PySem.W.nsIn K mainGlobals "_law_row" = some (some (.ref f34))) (l34 : K.lookup f34 = some ⟨oc34, od34, .func (PySem.W.fnOf "_law_row" "_law_row" (defArgs sLrw) (defBody sLrw) (defScope sLrw) .none kV34 dc34 pm34 an34 cd34 ct34), sl34⟩) (c34 : PySem.W.codeIn K cd34 "_law_row" = true) (k34 : PySem.W.keepIn K (.ref f34) = true)
    (a35 : PySem.W.nsIn K mainGlobals "_law_answer" = some (some (.ref f35))) (l35 : K.lookup f35 = some ⟨oc35, od35, .func (PySem.W.fnOf "_law_answer" "_law_answer" (defArgs sLan) (defBody sLan) (defScope sLan) .none kV35 dc35 pm35 an35 cd35 ct35), sl35⟩) (c35 : PySem.W.codeIn K cd35 "_law_answer" = true) (k35 : PySem.W.keepIn K (.ref f35) = true)
    (a36 : PySem.W.nsIn K mainGlobals "_law_signs" = some (some (.ref f36))) (l36 : K.lookup f36 = some ⟨oc36, od36, .func (PySem.W.fnOf "_law_signs" "_law_signs" (defArgs sLsg) (defBody sLsg) (defScope sLsg) .none kV36 dc36 pm36 an36 cd36 ct36), sl36⟩) (c36 : PySem.W.codeIn K cd36 "_law_signs" = true) (k36 : PySem.W.keepIn K (.ref f36) = true)
    (a37 : PySem.W.nsIn K mainGlobals "_law_by_pile" = some (some (.ref f37))) (l37 : K.lookup f37 = some ⟨oc37, od37, .func (PySem.W.fnOf "_law_by_pile" "_law_by_pile" (defArgs sPil) (defBody sPil) (defScope sPil) .none kV37 dc37 pm37 an37 cd37 ct37), sl37⟩) (c37 : PySem.W.codeIn K cd37 "_law_by_pile" = true) (k37 : PySem.W.keepIn K (.ref f37) = true)
    (a38 : PySem.W.nsIn K mainGlobals "_law_lists" = some (some (.ref f38))) (l38 : K.lookup f38 = some ⟨oc38, od38, .func (PySem.W.fnOf "_law_lists" "_law_lists" (defArgs sLls) (defBody sLls) (defScope sLls) .none kV38 dc38 pm38 an38 cd38 ct38), sl38⟩) (c38 : PySem.W.codeIn K cd38 "_law_lists" = true) (k38 : PySem.W.keepIn K (.ref f38) = true)
    (a39 : PySem.W.nsIn K mainGlobals "law" = some (some (.ref f39))) (l39 : K.lookup f39 = some ⟨oc39, od39, .func (PySem.W.fnOf "law" "law" (defArgs sLaw) (defBody sLaw) (defScope sLaw) .none kV39 dc39 pm39 an39 cd39 ct39), sl39⟩) (c39 : PySem.W.codeIn K cd39 "law" = true) (k39 : PySem.W.keepIn K (.ref f39) = true)
    (lc : K.lookup c = some ⟨e1, e2, .fields vs, e3⟩) (hp : vs[11]? = some (.ref P)) (nT : K.lookup P = none)
    (z0 : PySem.W.nsIn K mainGlobals "isinstance" = some none)
    (z1 : PySem.W.nsIn K mainGlobals "list" = some none)
    (z2 : PySem.W.nsIn K mainGlobals "tuple" = some none)
    (z3 : PySem.W.nsIn K mainGlobals "len" = some none)
    (z4 : PySem.W.nsIn K mainGlobals "int" = some none)
    (z5 : PySem.W.nsIn K mainGlobals "bool" = some none)
    (z6 : PySem.W.nsIn K mainGlobals "str" = some none)
    (z7 : PySem.W.nsIn K mainGlobals "all" = some none)
    (z8 : PySem.W.nsIn K mainGlobals "enumerate" = some none)
    (z9 : PySem.W.nsIn K mainGlobals "reversed" = some none)
    (z10 : PySem.W.nsIn K mainGlobals "range" = some none)
    (z11 : PySem.W.nsIn K mainGlobals "abs" = some none)
    (z12 : PySem.W.nsIn K mainGlobals "sorted" = some none)
    (z13 : PySem.W.nsIn K mainGlobals "min" = some none)
    (z14 : PySem.W.nsIn K mainGlobals "any" = some none)
    (z15 : PySem.W.nsIn K mainGlobals "zip" = some none)
    (z16 : PySem.W.nsIn K mainGlobals "repr" = some none)
    (v0 : PySem.W.nsIn K mainGlobals "LETTERS" = some (some (.str lets tL)))
    (v1 : PySem.W.nsIn K mainGlobals "LABEL_MOST" = some (some (.int 12 tM)))
    (v2 : PySem.W.nsIn K mainGlobals "TEXT_MOST" = some (some (.int 65535 tT)))
    (v3 : PySem.W.nsIn K mainGlobals "LABELS_MOST" = some (some (.int 6 t3)))
    (v4 : PySem.W.nsIn K mainGlobals "TEXTS_MOST" = some (some (.int 4 t4)))
    (v5 : PySem.W.nsIn K mainGlobals "STATES_MOST" = some (some (.int 200 t5)))
    (v6 : PySem.W.nsIn K mainGlobals "WORDS_MOST" = some (some (.int 8 t6))) :
    Known Pg w K mg fa := by
  have e := hfa.symm.trans (PySem.W.mg_of X G a39)
  cases e
  have T : Tx K mg := ⟨PySem.W.mg_none_of X G z0, PySem.W.mg_none_of X G z1, PySem.W.mg_none_of X G z2, PySem.W.mg_none_of X G z3, PySem.W.mg_none_of X G z4, PySem.W.mg_none_of X G z5, PySem.W.mg_none_of X G z6, PySem.W.mg_none_of X G z7, PySem.W.mg_none_of X G z8, PySem.W.mg_none_of X G z9, PySem.W.mg_none_of X G z10, PySem.W.mg_none_of X G z11, PySem.W.mg_none_of X G z12, PySem.W.mg_none_of X G z13, ⟨tL, PySem.W.mg_of X G v0⟩, ⟨tM, PySem.W.mg_of X G v1⟩, ⟨tT, PySem.W.mg_of X G v2⟩⟩
  have TT : Ty K mg := ⟨T, PySem.W.mg_none_of X G z14, PySem.W.mg_none_of X G z15, PySem.W.mg_none_of X G z16, ⟨t3, PySem.W.mg_of X G v3⟩, ⟨t4, PySem.W.mg_of X G v4⟩, ⟨t5, PySem.W.mg_of X G v5⟩, ⟨t6, PySem.W.mg_of X G v6⟩⟩
  have F1 := fun_mk (st := sNum) l1 c1 k1
  have b1 := F1.binds (ps := ["value"]) fun _ _ _ _ _ _ us hl => match us, hl with | [_], _ => rfl
  have D1 : Df K mg "is_number" sNum ["value"] f1 _ := ⟨F1, PySem.W.mg_of X G a1, b1⟩
  have F2 := fun_mk (st := sNub) l2 c2 k2
  have b2 := F2.binds (ps := ["value", "bound"]) fun _ _ _ _ _ _ us hl => match us, hl with | [_, _], _ => rfl
  have D2 : Df K mg "is_number_below" sNub ["value", "bound"] f2 _ := ⟨F2, PySem.W.mg_of X G a2, b2⟩
  have F3 := fun_mk (st := sSeq) l3 c3 k3
  have b3 := F3.binds (ps := ["value"]) fun _ _ _ _ _ _ us hl => match us, hl with | [_], _ => rfl
  have D3 : Df K mg "is_sequence" sSeq ["value"] f3 _ := ⟨F3, PySem.W.mg_of X G a3, b3⟩
  have F4 := fun_mk (st := sRow) l4 c4 k4
  have b4 := F4.binds (ps := ["value", "many"]) fun _ _ _ _ _ _ us hl => match us, hl with | [_, _], _ => rfl
  have D4 : Df K mg "is_row_of" sRow ["value", "many"] f4 _ := ⟨F4, PySem.W.mg_of X G a4, b4⟩
  have F5 := fun_mk (st := sLab) l5 c5 k5
  have b5 := F5.binds (ps := ["value"]) fun _ _ _ _ _ _ us hl => match us, hl with | [_], _ => rfl
  have D5 : DfC K mg "is_label" sLab ["value"] f5 _ c := ⟨⟨oc5, od5, kV5, dc5, pm5, an5, ct5, sl5, rfl, l5, c5⟩, k5, PySem.W.mg_of X G a5, b5⟩
  have F6 := fun_mk (st := sTxt) l6 c6 k6
  have b6 := F6.binds (ps := ["value"]) fun _ _ _ _ _ _ us hl => match us, hl with | [_], _ => rfl
  have D6 : Df K mg "is_text" sTxt ["value"] f6 _ := ⟨F6, PySem.W.mg_of X G a6, b6⟩
  have F7 := fun_mk (st := sItn) l7 c7 k7
  have b7 := F7.binds (ps := ["value"]) fun _ _ _ _ _ _ us hl => match us, hl with | [_], _ => rfl
  have D7 : Df K mg "_is_text_node" sItn ["value"] f7 _ := ⟨F7, PySem.W.mg_of X G a7, b7⟩
  have F8 := fun_mk (st := sIen') l8 c8 k8
  have b8 := F8.binds (ps := ["value"]) fun _ _ _ _ _ _ us hl => match us, hl with | [_], _ => rfl
  have D8 : Df K mg "_is_element_node" sIen' ["value"] f8 _ := ⟨F8, PySem.W.mg_of X G a8, b8⟩
  have F9 := fun_mk (st := sSig) l9 c9 k9
  have b9 := F9.binds (ps := ["document"]) fun _ _ _ _ _ _ us hl => match us, hl with | [_], _ => rfl
  have D9 : Df K mg "signs_of" sSig ["document"] f9 _ := ⟨F9, PySem.W.mg_of X G a9, b9⟩
  have F10 := fun_mk (st := sAlb) l10 c10 k10
  have b10 := F10.binds (ps := ["value"]) fun _ _ _ _ _ _ us hl => match us, hl with | [_], _ => rfl
  have D10 : Df K mg "are_labels" sAlb ["value"] f10 _ := ⟨F10, PySem.W.mg_of X G a10, b10⟩
  have F11 := fun_mk (st := sAtx) l11 c11 k11
  have b11 := F11.binds (ps := ["value"]) fun _ _ _ _ _ _ us hl => match us, hl with | [_], _ => rfl
  have D11 : Df K mg "are_texts" sAtx ["value"] f11 _ := ⟨F11, PySem.W.mg_of X G a11, b11⟩
  have F12 := fun_mk (st := sAsc) l12 c12 k12
  have b12 := F12.binds (ps := ["names"]) fun _ _ _ _ _ _ us hl => match us, hl with | [_], _ => rfl
  have D12 : Df K mg "_is_ascending" sAsc ["names"] f12 _ := ⟨F12, PySem.W.mg_of X G a12, b12⟩
  have F13 := fun_mk (st := sStc) l13 c13 k13
  have b13 := F13.binds (ps := ["value"]) fun _ _ _ _ _ _ us hl => match us, hl with | [_], _ => rfl
  have D13 : Df K mg "is_state_count" sStc ["value"] f13 _ := ⟨F13, PySem.W.mg_of X G a13, b13⟩
  have F14 := fun_mk (st := sMap) l14 c14 k14
  have b14 := F14.binds (ps := ["value", "length", "many"]) fun _ _ _ _ _ _ us hl => match us, hl with | [_, _, _], _ => rfl
  have D14 : Df K mg "is_map" sMap ["value", "length", "many"] f14 _ := ⟨F14, PySem.W.mg_of X G a14, b14⟩
  have F15 := fun_mk (st := sMps) l15 c15 k15
  have b15 := F15.binds (ps := ["value", "length", "many"]) fun _ _ _ _ _ _ us hl => match us, hl with | [_, _, _], _ => rfl
  have D15 : Df K mg "are_maps" sMps ["value", "length", "many"] f15 _ := ⟨F15, PySem.W.mg_of X G a15, b15⟩
  have F16 := fun_mk (st := sAan) l16 c16 k16
  have b16 := F16.binds (ps := ["value", "many"]) fun _ _ _ _ _ _ us hl => match us, hl with | [_, _], _ => rfl
  have D16 : Df K mg "are_answers" sAan ["value", "many"] f16 _ := ⟨F16, PySem.W.mg_of X G a16, b16⟩
  have F17 := fun_mk (st := sIan) l17 c17 k17
  have b17 := F17.binds (ps := ["value", "length"]) fun _ _ _ _ _ _ us hl => match us, hl with | [_, _], _ => rfl
  have D17 : Df K mg "is_answer" sIan ["value", "length"] f17 _ := ⟨F17, PySem.W.mg_of X G a17, b17⟩
  have F18 := fun_mk (st := sInn) l18 c18 k18
  have b18 := F18.binds (ps := ["value", "labels", "texts"]) fun _ _ _ _ _ _ us hl => match us, hl with | [_, _, _], _ => rfl
  have D18 : Df K mg "are_inners" sInn ["value", "labels", "texts"] f18 _ := ⟨F18, PySem.W.mg_of X G a18, b18⟩
  have F19 := fun_mk (st := sTop) l19 c19 k19
  have b19 := F19.binds (ps := ["value", "texts", "inner_many"]) fun _ _ _ _ _ _ us hl => match us, hl with | [_, _, _], _ => rfl
  have D19 : Df K mg "are_tops" sTop ["value", "texts", "inner_many"] f19 _ := ⟨F19, PySem.W.mg_of X G a19, b19⟩
  have F20 := fun_mk (st := sAst) l20 c20 k20
  have b20 := F20.binds (ps := ["rows"]) fun _ _ _ _ _ _ us hl => match us, hl with | [_], _ => rfl
  have D20 : Df K mg "as_tuples" sAst ["rows"] f20 _ := ⟨F20, PySem.W.mg_of X G a20, b20⟩
  have F21 := fun_mk (st := sChk) l21 c21 k21
  have b21 := F21.binds (ps := ["value"]) fun _ _ _ _ _ _ us hl => match us, hl with | [_], _ => rfl
  have D21 : Df K mg "check_machine" sChk ["value"] f21 _ := ⟨F21, PySem.W.mg_of X G a21, b21⟩
  have F22 := fun_mk (st := sKnd) l22 c22 k22
  have b22 := F22.binds (ps := ["names", "value"]) fun _ _ _ _ _ _ us hl => match us, hl with | [_, _], _ => rfl
  have D22 : Df K mg "kind_of" sKnd ["names", "value"] f22 _ := ⟨F22, PySem.W.mg_of X G a22, b22⟩
  have F23 := fun_mk (st := sAns) l23 c23 k23
  have b23 := F23.binds (ps := ["machine", "document"]) fun _ _ _ _ _ _ us hl => match us, hl with | [_, _], _ => rfl
  have D23 : Df K mg "answer" sAns ["machine", "document"] f23 _ := ⟨F23, PySem.W.mg_of X G a23, b23⟩
  have F24 := fun_mk (st := sLbs) l24 c24 k24
  have b24 := F24.binds (ps := ["labels"]) fun _ _ _ _ _ _ us hl => match us, hl with | [_], _ => rfl
  have D24 : Df K mg "label_beside" sLbs ["labels"] f24 _ := ⟨F24, PySem.W.mg_of X G a24, b24⟩
  have F25 := fun_mk (st := sTbs) l25 c25 k25
  have b25 := F25.binds (ps := ["texts"]) fun _ _ _ _ _ _ us hl => match us, hl with | [_], _ => rfl
  have D25 : Df K mg "text_beside" sTbs ["texts"] f25 _ := ⟨F25, PySem.W.mg_of X G a25, b25⟩
  have F26 := fun_mk (st := sOlb) l26 c26 k26
  have b26 := F26.binds (ps := ["machine"]) fun _ _ _ _ _ _ us hl => match us, hl with | [_], _ => rfl
  have D26 : Df K mg "other_label" sOlb ["machine"] f26 _ := ⟨F26, PySem.W.mg_of X G a26, b26⟩
  have F27 := fun_mk (st := sOtx) l27 c27 k27
  have b27 := F27.binds (ps := ["machine"]) fun _ _ _ _ _ _ us hl => match us, hl with | [_], _ => rfl
  have D27 : Df K mg "other_text" sOtx ["machine"] f27 _ := ⟨F27, PySem.W.mg_of X G a27, b27⟩
  have F28 := fun_mk (st := sBox) l28 c28 k28
  have b28 := F28.binds (ps := ["script", "k"]) fun _ _ _ _ _ _ us hl => match us, hl with | [_, _], _ => rfl
  have D28 : Df K mg "_law_box" sBox ["script", "k"] f28 _ := ⟨F28, PySem.W.mg_of X G a28, b28⟩
  have F29 := fun_mk (st := sTak) l29 c29 k29
  have b29 := F29.binds (ps := ["box", "many"]) fun _ _ _ _ _ _ us hl => match us, hl with | [_, _], _ => rfl
  have D29 : Df K mg "_law_take" sTak ["box", "many"] f29 _ := ⟨F29, PySem.W.mg_of X G a29, b29⟩
  have F30 := fun_mk (st := sPck) l30 c30 k30
  have b30 := F30.binds (ps := ["box", "some"]) fun _ _ _ _ _ _ us hl => match us, hl with | [_, _], _ => rfl
  have D30 : Df K mg "_law_pick" sPck ["box", "some"] f30 _ := ⟨F30, PySem.W.mg_of X G a30, b30⟩
  have F31 := fun_mk (st := sMac) l31 c31 k31
  have b31 := F31.binds (ps := ["box", "tops", "inners", "long"]) fun _ _ _ _ _ _ us hl => match us, hl with | [_, _, _, _], _ => rfl
  have D31 : Df K mg "_law_machine" sMac ["box", "tops", "inners", "long"] f31 _ := ⟨F31, PySem.W.mg_of X G a31, b31⟩
  have F32 := fun_mk (st := sLdc) l32 c32 k32
  have b32 := F32.binds (ps := ["box", "depth"]) fun _ _ _ _ _ _ us hl => match us, hl with | [_, _], _ => rfl
  have D32 : Df K mg "_law_document" sLdc ["box", "depth"] f32 _ := ⟨F32, PySem.W.mg_of X G a32, b32⟩
  have F33 := fun_mk (st := sKin) l33 c33 k33
  have b33 := F33.binds (ps := ["names", "name"]) fun _ _ _ _ _ _ us hl => match us, hl with | [_, _], _ => rfl
  have D33 : Df K mg "_law_kind" sKin ["names", "name"] f33 _ := ⟨F33, PySem.W.mg_of X G a33, b33⟩
  have F34 := fun_mk (st := sLrw) l34 c34 k34
  have b34 := F34.binds (ps := ["machine", "part", "state", "document"]) fun _ _ _ _ _ _ us hl => match us, hl with | [_, _, _, _], _ => rfl
  have D34 : Df K mg "_law_row" sLrw ["machine", "part", "state", "document"] f34 _ := ⟨F34, PySem.W.mg_of X G a34, b34⟩
  have F35 := fun_mk (st := sLan) l35 c35 k35
  have b35 := F35.binds (ps := ["machine", "document"]) fun _ _ _ _ _ _ us hl => match us, hl with | [_, _], _ => rfl
  have D35 : Df K mg "_law_answer" sLan ["machine", "document"] f35 _ := ⟨F35, PySem.W.mg_of X G a35, b35⟩
  have F36 := fun_mk (st := sLsg) l36 c36 k36
  have b36 := F36.binds (ps := ["document"]) fun _ _ _ _ _ _ us hl => match us, hl with | [_], _ => rfl
  have D36 : Df K mg "_law_signs" sLsg ["document"] f36 _ := ⟨F36, PySem.W.mg_of X G a36, b36⟩
  have F37 := fun_mk (st := sPil) l37 c37 k37
  have b37 := F37.binds (ps := ["machine", "signs"]) fun _ _ _ _ _ _ us hl => match us, hl with | [_, _], _ => rfl
  have D37 : Df K mg "_law_by_pile" sPil ["machine", "signs"] f37 _ := ⟨F37, PySem.W.mg_of X G a37, b37⟩
  have F38 := fun_mk (st := sLls) l38 c38 k38
  have b38 := F38.binds (ps := ["value"]) fun _ _ _ _ _ _ us hl => match us, hl with | [_], _ => rfl
  have D38 : Df K mg "_law_lists" sLls ["value"] f38 _ := ⟨F38, PySem.W.mg_of X G a38, b38⟩
  have F39 := fun_mk (st := sLaw) l39 c39 k39
  have b39 := F39.binds (ps := ["script"]) fun _ _ _ _ _ _ us hl => match us, hl with | [_], _ => rfl
  refine ⟨c, P, PySem.W.fnOf "law" "law" (defArgs sLaw) (defBody sLaw) (defScope sLaw) .none kV39 dc39 pm39 an39 cd39 ct39, tab_mk a5 l5 rfl lc hp, nT, fun s u => .of_eq rfl, fun base _ _ TB => ?_⟩
  have Gitn : FnOk Pg w K mg base CX0 3 f7 _ ["value"] (spItn K P) := ok_itn F7 T D3 D4 D6
  have Giel : FnOk Pg w K mg base CX0 3 f8 _ ["value"] (spIel K P) := ok_iel F8 T TB D3 D4 D5
  have Gsig : FnOk Pg w K mg base CX0 4 f9 _ ["document"] (spSig K P) := ok_sig F9 T D3 D7 Gitn D8 Giel
  have Galb : FnOk Pg w K mg base CX0 2 f10 _ ["value"] (spAlb K P) := ok_alb F10 TT TB D3 D5 D12
  have Gatx : FnOk Pg w K mg base CX0 2 f11 _ ["value"] (spAtx K P) := ok_atx F11 TT D3 D6 D12
  have Ginn : FnOk Pg w K mg base CX0 5 f18 _ ["value", "labels", "texts"] (spInn K P) := ok_inn F18 TT D4 D3 D14 D15 D1 D13
  have Gtop : FnOk Pg w K mg base CX0 5 f19 _ ["value", "texts", "inner_many"] (spTop K P) := ok_top F19 TT D4 D3 D14 D15 D1 D13 D2 D17 D16
  have Gchk : FnOk Pg w K mg base CX0 6 f21 _ ["value"] (spChk K P) := ok_chk (c := c) F21 TT D4 D3 D10 Galb D11 Gatx D18 Ginn D19 Gtop D20
  have Gknd : FnOk Pg w K mg base CX0 1 f22 _ ["names", "value"] (spKnd K P) := ok_knd F22 TT
  have Gans : FnOk Pg w K mg base CX0 7 f23 _ ["machine", "document"] (spAns K P) := ok_ans F23 TT D21 Gchk D9 Gsig D22
  have Golb : FnOk Pg w K mg base CX0 7 f26 _ ["machine"] (spOlb K P) := ok_olb F26 TT D24 D21 Gchk
  have Gotx : FnOk Pg w K mg base CX0 7 f27 _ ["machine"] (spOtx K P) := ok_otx F27 D25 D21 Gchk
  have Gbox : FnOk Pg w K mg base CX0 1 f28 _ ["script", "k"] (spBox K P) := ok_box F28 T
  have Gtak : FnOk Pg w K mg base CX0 1 f29 _ ["box", "many"] (spTak) := ok_tak F29 T
  have Gpck : FnOk Pg w K mg base CX0 2 f30 _ ["box", "some"] (spPck) := ok_pck F30 T D29
  have Gmac : FnOk Pg w K mg base CX0 3 f31 _ ["box", "tops", "inners", "long"] (spMac K P) := ok_mac F31 TT D29 D30
  have Gldc : FnOk Pg w K mg base CX0 7 f32 _ ["box", "depth"] (spLdc K P 4) := ok_ldc F32 TT D32 D29 D30 4
  have Gkin : FnOk Pg w K mg base CX0 1 f33 _ ["names", "name"] (spKnd K P) := ok_kin F33 TT
  have Glrw : FnOk Pg w K mg base CX0 6 f34 _ ["machine", "part", "state", "document"] (spRow3 K P 4) := ok_lrw F34 TT D34 D33 4
  have Glan : FnOk Pg w K mg base CX0 7 f35 _ ["machine", "document"] (spLan K P 4) := ok_lan (fK := c) (fdK := PySem.W.fnOf "law" "law" (defArgs sLaw) (defBody sLaw) (defScope sLaw) .none kV1 dc1 pm1 an1 cd1 ct1) F35 D34 Glrw
  have Glsg : FnOk Pg w K mg base CX0 6 f36 _ ["document"] (spLsg K P 4) := ok_lsg F36 D36 4
  have Gpil : FnOk Pg w K mg base CX0 2 f37 _ ["machine", "signs"] (spPil K P) := ok_pil F37 TT D33
  have Glls : FnOk Pg w K mg base CX0 6 f38 _ ["value"] (spLls K P 5) := ok_lls F38 TT D38 5
  exact ok_law F39 TT D28 Gbox D30 Gpck D29 Gtak D31 Gmac D21 Gchk (kb1 F21 fun _ _ _ _ _ _ _ => rfl) D38 Glls D32 Gldc D35 Glan D23 Gans (kb2 F23 fun _ _ _ _ _ _ _ _ => rfl) D37 Gpil D36 Glsg D22 Gknd (kb2 F22 fun _ _ _ _ _ _ _ _ => rfl) D33 Gkin D26 Golb D27 Gotx
theorem walk {l : PySem.W.OpenLaw} {q : Program} {loose : List Str} {XP : (Str → Option Value) → Heap → Prop} {YP : World → Heap → Prop} {d : DefRec} {K : Params → PySem.W.Frag} (hn : l.most = some 63) (hdf : d.params.defaults = [])
    (hrec : ((recsOf q).find? fun e => e.name == ("is_label" : Str)).isSome = true) (hY : ∀ (w : World) (h : Heap), YP w h → (K w.params).In h)
    (F : ∀ (w : World) (mg : Str → Option Value) (fa : Addr) (h : Heap), (K w.params).In h → h.Ns mainGlobals mg → mg d.name = some (.ref fa) → Known l.prog w (K w.params) mg fa) :
    PySem.W.WalkO q loose XP YP l.row.toRowW d [] (fun f vs => PySem.call f vs) := by
  refine Att.attach_callB hn hdf fun w s₀ s₁ mg mb fa o pm cd doc a vs ns G Y ho hd hcd hmg hobj hints hlen hbits hg => ?_
  have KX := hY w _ Y
  obtain ⟨c, P, fd, ht, nT, hb, hF⟩ := F w mg fa _ KX G.T.g hmg
  obtain ⟨dr, hr⟩ := Option.isSome_iff_exists.mp hrec
  obtain ⟨Ch, hT⟩ := PySem.W.tab_of G.T KX hr ht
  exact SoG.law_end KX G.T.g G.T.b G.T.builtins G.T.nolimit hg hT nT Ch G.T.bmain hobj hints (Nat.le_trans hlen (by decide)) hF hb fun H hH hS => ⟨⟨#[], hH, by simp [TriplesOk]⟩, a, ns, rfl, hS, hlen, fun _ => rfl⟩
end K6

set_option Elab.async false
set_option linter.all false
set_option maxRecDepth 100000
open PySem PySem.W PyProof.Rows
set_option maxRecDepth 100000 in
set_option maxHeartbeats 0 in
theorem PySem.Challenge.cw_stillopen_k11_whole_machines_on_trees_an_holds : PySem.Challenge.rw_stillopen_k11_whole_machines_on_trees_an.Holds := by
  w_on; o_law; k_head; (case hw => w_witness2)
  k_fill
  refine K6.walk (l := PySem.Challenge.rw_stillopen_k11_whole_machines_on_trees_an) rfl rfl (by decide +kernel) (fun w h Y => PySem.W.kIn_of Y) ?F
  case F =>
    intro w mg fa h KX G hmg
    refine' K6.all_mk KX G hmg ?a1 ?l1 ?c1 ?k1 ?a2 ?l2 ?c2 ?k2 ?a3 ?l3 ?c3 ?k3 ?a4 ?l4 ?c4 ?k4 ?a5 ?l5 ?c5 ?k5 ?a6 ?l6 ?c6 ?k6 ?a7 ?l7 ?c7 ?k7 ?a8 ?l8 ?c8 ?k8 ?a9 ?l9 ?c9 ?k9 ?a10 ?l10 ?c10 ?k10 ?a11 ?l11 ?c11 ?k11 ?a12 ?l12 ?c12 ?k12 ?a13 ?l13 ?c13 ?k13 ?a14 ?l14 ?c14 ?k14 ?a15 ?l15 ?c15 ?k15 ?a16 ?l16 ?c16 ?k16 ?a17 ?l17 ?c17 ?k17 ?a18 ?l18 ?c18 ?k18 ?a19 ?l19 ?c19 ?k19 ?a20 ?l20 ?c20 ?k20 ?a21 ?l21 ?c21 ?k21 ?a22 ?l22 ?c22 ?k22 ?a23 ?l23 ?c23 ?k23 ?a24 ?l24 ?c24 ?k24 ?a25 ?l25 ?c25 ?k25 ?a26 ?l26 ?c26 ?k26 ?a27 ?l27 ?c27 ?k27 ?a28 ?l28 ?c28 ?k28 ?a29 ?l29 ?c29 ?k29 ?a30 ?l30 ?c30 ?k30 ?a31 ?l31 ?c31 ?k31 ?a32 ?l32 ?c32 ?k32 ?a33 ?l33 ?c33 ?k33 ?a34 ?l34 ?c34 ?k34 ?a35 ?l35 ?c35 ?k35 ?a36 ?l36 ?c36 ?k36 ?a37 ?l37 ?c37 ?k37 ?a38 ?l38 ?c38 ?k38 ?a39 ?l39 ?c39 ?k39 ?lc ?hp ?nT ?z0 ?z1 ?z2 ?z3 ?z4 ?z5 ?z6 ?z7 ?z8 ?z9 ?z10 ?z11 ?z12 ?z13 ?z14 ?z15 ?z16 ?v0 ?v1 ?v2 ?v3 ?v4 ?v5 ?v6
    (case a1 => k_is)
    (case l1 => k_is)
    (case c1 => k_is)
    (case k1 => k_is)
    (case a2 => k_is)
    (case l2 => k_is)
    (case c2 => k_is)
    (case k2 => k_is)
    (case a3 => k_is)
    (case l3 => k_is)
    (case c3 => k_is)
    (case k3 => k_is)
    (case a4 => k_is)
    (case l4 => k_is)
    (case c4 => k_is)
    (case k4 => k_is)
    (case a5 => k_is)
    (case l5 => k_is)
    (case c5 => k_is)
    (case k5 => k_is)
    (case a6 => k_is)
    (case l6 => k_is)
    (case c6 => k_is)
    (case k6 => k_is)
    (case a7 => k_is)
    (case l7 => k_is)
    (case c7 => k_is)
    (case k7 => k_is)
    (case a8 => k_is)
    (case l8 => k_is)
    (case c8 => k_is)
    (case k8 => k_is)
    (case a9 => k_is)
    (case l9 => k_is)
    (case c9 => k_is)
    (case k9 => k_is)
    (case a10 => k_is)
    (case l10 => k_is)
    (case c10 => k_is)
    (case k10 => k_is)
    (case a11 => k_is)
    (case l11 => k_is)
    (case c11 => k_is)
    (case k11 => k_is)
    (case a12 => k_is)
    (case l12 => k_is)
    (case c12 => k_is)
    (case k12 => k_is)
    (case a13 => k_is)
    (case l13 => k_is)
    (case c13 => k_is)
    (case k13 => k_is)
    (case a14 => k_is)
    (case l14 => k_is)
    (case c14 => k_is)
    (case k14 => k_is)
    (case a15 => k_is)
    (case l15 => k_is)
    (case c15 => k_is)
    (case k15 => k_is)
    (case a16 => k_is)
    (case l16 => k_is)
    (case c16 => k_is)
    (case k16 => k_is)
    (case a17 => k_is)
    (case l17 => k_is)
    (case c17 => k_is)
    (case k17 => k_is)
    (case a18 => k_is)
    (case l18 => k_is)
    (case c18 => k_is)
    (case k18 => k_is)
    (case a19 => k_is)
    (case l19 => k_is)
    (case c19 => k_is)
    (case k19 => k_is)
    (case a20 => k_is)
    (case l20 => k_is)
    (case c20 => k_is)
    (case k20 => k_is)
    (case a21 => k_is)
    (case l21 => k_is)
    (case c21 => k_is)
    (case k21 => k_is)
    (case a22 => k_is)
    (case l22 => k_is)
    (case c22 => k_is)
    (case k22 => k_is)
    (case a23 => k_is)
    (case l23 => k_is)
    (case c23 => k_is)
    (case k23 => k_is)
    (case a24 => k_is)
    (case l24 => k_is)
    (case c24 => k_is)
    (case k24 => k_is)
    (case a25 => k_is)
    (case l25 => k_is)
    (case c25 => k_is)
    (case k25 => k_is)
    (case a26 => k_is)
    (case l26 => k_is)
    (case c26 => k_is)
    (case k26 => k_is)
    (case a27 => k_is)
    (case l27 => k_is)
    (case c27 => k_is)
    (case k27 => k_is)
    (case a28 => k_is)
    (case l28 => k_is)
    (case c28 => k_is)
    (case k28 => k_is)
    (case a29 => k_is)
    (case l29 => k_is)
    (case c29 => k_is)
    (case k29 => k_is)
    (case a30 => k_is)
    (case l30 => k_is)
    (case c30 => k_is)
    (case k30 => k_is)
    (case a31 => k_is)
    (case l31 => k_is)
    (case c31 => k_is)
    (case k31 => k_is)
    (case a32 => k_is)
    (case l32 => k_is)
    (case c32 => k_is)
    (case k32 => k_is)
    (case a33 => k_is)
    (case l33 => k_is)
    (case c33 => k_is)
    (case k33 => k_is)
    (case a34 => k_is)
    (case l34 => k_is)
    (case c34 => k_is)
    (case k34 => k_is)
    (case a35 => k_is)
    (case l35 => k_is)
    (case c35 => k_is)
    (case k35 => k_is)
    (case a36 => k_is)
    (case l36 => k_is)
    (case c36 => k_is)
    (case k36 => k_is)
    (case a37 => k_is)
    (case l37 => k_is)
    (case c37 => k_is)
    (case k37 => k_is)
    (case a38 => k_is)
    (case l38 => k_is)
    (case c38 => k_is)
    (case k38 => k_is)
    (case a39 => k_is)
    (case l39 => k_is)
    (case c39 => k_is)
    (case k39 => k_is)
    (case lc => k_is)
    (case hp => rfl)
    (case nT => first | rfl | kernel_rfl)
    (case z0 => k_is)
    (case z1 => k_is)
    (case z2 => k_is)
    (case z3 => k_is)
    (case z4 => k_is)
    (case z5 => k_is)
    (case z6 => k_is)
    (case z7 => k_is)
    (case z8 => k_is)
    (case z9 => k_is)
    (case z10 => k_is)
    (case z11 => k_is)
    (case z12 => k_is)
    (case z13 => k_is)
    (case z14 => k_is)
    (case z15 => k_is)
    (case z16 => k_is)
    (case v0 => k_is)
    (case v1 => k_is)
    (case v2 => k_is)
    (case v3 => k_is)
    (case v4 => k_is)
    (case v5 => k_is)
    (case v6 => k_is)

