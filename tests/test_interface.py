"""The names and arguments of the interface, each defined in the file and the class that lists it."""

import importlib
import inspect
import unittest

FUNCTIONS = """
sets is_int(value) check_number(value,low,high,name) set_of(value,many,name) joined(one,other) common(one,other)
sets without(one,other) inside(one,other) short_first(sets) subsets(members) least_sets(sets)
sets meeting_sets(sets,members)
systemtexts system_text(system) system_from(text)
foes foe_text(foe) foe_from(text)
growth grow(foe,start,barred=()) grow_steps(foe,start,barred=()) is_closed(foe,parts,barred=()) wave(foe,start)
gaps gap_most(foe,before,behind) gap_deeds(foe,before,behind) can_be(foe,before,moments,behind)
runs misfit(foe,run) is_run(foe,run)
deeds run_deeds(foe,run) played(foe,start,gaps) deeds_many(start,gaps)
phrases in_turn(*phrases) beside(*phrases,together=True) depth(phrase) ask_many(phrase) look_many(phrase)
phrases sign_many(phrase)
phrasetexts phrase_text(phrase) phrase_from(text)
names named_from(lines) uses(lines)
checks check_phrase(system,phrase) stands_at(phrase) event_many(phrase) void_looks(system,phrase)
events events_of(system,phrase) look_events(system,phrase) order_of(system,phrase) look_order(system,phrase)
rows is_row(order,row) rows_of(order) beginnings(order) count_rows(order) row_count(phrase) beginning_count(phrase)
rows extremes(system,phrase)
exchanges unlike(row,other) exchanges(order,row,other)
series n_of(order) pieces(order,comparable) looks_phrase(system,looks,order)
evidence at_path(evidence,path) put_at(evidence,path,other) words_in(evidence)
evidencetexts evidence_text(evidence) evidence_from(text)
worth evidence_of(system,phrase,nonce,words) clean_of(system,phrase,nonce) keeps(phrase) size_of(phrase)
worth copies_of(phrase) lost_looks(phrase) sign_holds(phrase,sign)
ways way_of(system,phrase,path) round_of(step) all_ways(system,phrase) left_before(system,phrase,path)
judges first_fault(system,phrase,nonce,evidence) takes(system,phrase,nonce,evidence) judge_text(system,phrase,nonce,text)
records record_text(record) read_log(text) mended(text)
logs pieces_at(system,phrase,place) ready_at(system,phrase,place,records)
logs worked_out(system,phrase,nonce,place,records,event)
letters letter_text(letter) letter_from(text) letters_of(system,phrase,nonce,place,records)
driving deeds_left(machine) done_with(machine,deed,*,word=True) drive(system,phrase,nonce,row,words)
covers check_line(system,line) honest_bad(system,line,run,i) unheard(system,line,run) first_heard(system,line,run)
covers check_aim(line,aim) reaches(line,run,aim)
barring held(foe,bars,gap) barred_run(foe,length,bars) look_bars(line,positions)
sieves sieve(foe,line,covered,*,bars=()) goings(foe,line,covered) peel(foe,line,covered,aim)
sieves is_peel(foe,line,covered,aim,positions) once(system,foe,line) clean_rows(system,foe,line)
descents descent(system,line,run,i) is_descent(system,line,run,told)
plays within(system,foe,line,rooms) plays_of(system,foe,line,part,i)
openness look_line(system,phrase,row) event_line(system,phrase,row) is_open(system,foe,phrase,aim)
openness open_way(system,foe,phrase,aim) peels_of(system,foe,phrase,aim) is_peels(system,foe,phrase,aim,told)
tables step_clean(system,foe,clean,look) table_of(system,foe,phrase,aim) is_table(system,foe,phrase,aim,table)
sure sure_looks(system,phrase,levels) once_each(phrase)
lots lot_open(system,phrase,aim,levels) least_open(system,phrase,aim) greatest_shut(system,phrase,aim)
lots trust_sets(system,phrase,part) local_parts(system,foe,phrase,part)
prices price_of(foe,prices,start,gaps) cheapest(system,foe,phrase,aim,prices) heights_of(system,foe,phrase,aim,prices)
prices is_heights(system,foe,phrase,aim,prices,price,heights) fewest_deeds(system,foe,phrase,aim)
keys keys_out(system,run,i) place_of_event(system,phrase,event)
changing bad_looks(system,phrase,row,run) words_of(system,phrase,row,run)
changing change_steps(system,phrase,row,run,path,*,memory=False) changeable(system,phrase,row,run,path,*,memory=False)
changing blocked(system,phrase,row,run,path,*,memory=False)
changing is_blocked(system,phrase,row,run,path,told,*,memory=False)
changing first_kept(system,phrase,row,run,*,memory=False) unread(system,phrase,row,run,*,memory=False)
sending recorded_by(system,phrase,nonce,row,run,*,memory=False) opened(known) buildable(known,places,evidence)
sending is_sending(system,phrase,nonce,row,run,records,*,memory=False)
readers reads(system,foe,phrase,row,*,memory=False) taken_way(system,foe,phrase,aim,*,memory=False)
readers reader_peels(system,foe,phrase,aim,*,memory=False) play_out(system,foe,phrase,nonce,row,run,*,twice=False)
leavings leavings(system,phrase) bare(phrase) without_signs(system,phrase) signed_at(system,phrase,spots)
leavings full_signing(system,phrase)
signing more_kept(system,one,other) full_round(system,phrase,path)
needed wanted(system,phrase) enough(system,phrase,spots) least_signings(system,phrase) fewest_signs(system,phrase)
needed weak_case(system,phrase,spots)
changers changers(system,phrase,look) changer_run(system,phrase,look,places)
strength weaker_lot(system,phrase,other,part) as_strong(system,phrase,other,part) clean_end(system,row,levels)
strength shuts(system,row,levels,part)
selfkept is_kept(system,looks,levels,parts) greatest_kept(system,looks,levels) cleaning_row(system,looks,levels,part)
selfkept kept_reason(system,looks,levels,parts) least_kept_lots(system,looks,part)
feeding feeding_pairs(system,looks) feeding_ring(system,looks) feeding_order(system,looks)
feeding is_best_order(system,looks,order) spoiler(system,looks,order) best_phrase(system,looks)
livepaths live_paths(system,looks) path_when(row,path) holds_path(row,path) lacking_path(system,looks,row)
livepaths is_best_row(system,looks,row) clean_when(system,looks,levels,row,part)
shortest steps_against(looks,row,path) passes_needed(system,looks,row) shortest_best(system,looks)
shortest least_length(system,looks)
firm first_uses(row) is_firm(row,part) firm_rows(many,row,part)
freesystems free_system(many,row,part) free_lot(many,row,part) free_foe(many,row,part)
everywhere matched(row,firm) strong_everywhere(many,row,other,part) weak_system(many,row,other,part)
everywhere strong_by_rules(many,row,other,part) weak_by_rules(many,row,other,part)
everywhere all_strong(many,rows,other,part,*,by_rules=False)
alike alike(many,row,other,part) spare(many,row,part) shorten(many,row,part) strength_pairs(many,rows,part)
tours spread(foe,parts,pace) round_of_row(system,foe,row,parts) left_after(system,foe,tour,pace,rounds)
tours met(system,foe,tour,pace) comes_again(system,foe,tour,pace) way_of_rounds(system,foe,tour,pace,rounds)
tours is_way(system,foe,tour,pace,told)
camps camp(system,foe,tour,pace) is_camp(system,foe,tour,pace,parts) longest_pace(system,foe,tour)
wanderers truthful(system,foe,tour) alone_after(system,foe,tour,pace,rounds,part)
wanderers lone_walk(system,foe,tour,pace,rounds) is_walk(system,foe,tour,pace,told)
registers register_of(looks,words) rows_told(register) clean_register(looks)
starts joined_line(starts,phrase,row) counts(starts,phrase) sealed_reads(foe,starts,phrase,row)
starts sealed_taken(foe,starts,phrase,aim) sealed_evidence(starts,phrase,nonce,row,run)
starts register_at(starts,place,run) chain(system,parts)
blame says(system,line,run,i) explains(system,foe,line,words,run) story(system,foe,line,words)
blame may_be(system,foe,line,words) must_ever(system,foe,line,words,part) must_at(system,foe,line,words,part,i)
guilt story_sets(system,foe,line,words) guilty_lists(system,foe,line,words) story_lots(system,line,words)
guilt phrase_story(system,foe,phrase,words)
mending least_trust(system,phrase,part) order_helps(system,looks,levels,part) mend_told(system,foe,phrase,aim)
trials tried(desk,changes,question)
listings line_of(aim) listing(desk)
"""

CLASSES = """
systems.System __init__(self,places,homes,needs,managers) many() at_home(self,place) void(self,a,b) grounded(self,a,bad)
systems.System __add__(self,other) __eq__(self,other) standing(places,homes,direct,managers)
foes.Foe __init__(self,many,early,rules,*,stuck=()) many() less(self,parts) free_parts(self) holds(self,other)
foes.Foe __or__(self,other) __eq__(self,other) of_lot(levels)
runs.Run __init__(self,moments,states) __len__(self) under(self,other) bad_at(self,i) moment(self,i)
runs.Run dropped(self,places) __or__(self,other) __eq__(self,other) blank(length)
phrases.Look __init__(self,measurer,target) leaves(self) parts_of(self) __eq__(self,other)
phrases.Sign leaves(self) parts_of(self) __eq__(self,other)
phrases.Ask __init__(self,place,asked) leaves(self) parts_of(self) __eq__(self,other)
phrases.Then __init__(self,first,second) leaves(self) parts_of(self) __eq__(self,other)
phrases.Branch __init__(self,left,right,*,keep_left=True,keep_right=True,together=False) leaves(self) parts_of(self)
phrases.Branch __eq__(self,other)
orders.Order __init__(self,size,pairs) pairs_many() before(self,e,f) ahead(self,e) behind(self,e) ready(self,done)
orders.Order is_beginning(self,done) kept(self,members) holds(self,other) __eq__(self,other) of_row(row)
evidence.Evidence insides(self) knots(self)
evidence.Nonce __init__(self,number) __eq__(self,other)
evidence.Empty __eq__(self,other)
evidence.Broken __init__(self,place) __eq__(self,other)
evidence.Said __init__(self,look,measurer,target,good,inner) __eq__(self,other)
evidence.Signed __init__(self,sign,place,inner) __eq__(self,other)
evidence.Pair __init__(self,left,right) __eq__(self,other)
records.Record __init__(self,kind,event,what) __eq__(self,other)
letters.Letter __init__(self,nonce,ask,back,evidence) __eq__(self,other)
stations.Station __init__(self,system,phrase,nonce,place) log(self) records(self) ready(self)
stations.Station write(self,record,*,cut=None) fall(self)
machines.Machine __init__(self,system,phrase,nonce,*,old=()) ready(self) do(self,event,*,word=True,sent=None,cut=None)
machines.Machine letters(self) send(self,letter) bag(self) waits_for(self,letter) bring(self,letter,*,cut=None)
machines.Machine fall(self,place) log_of(self,place) recorded(self) words(self) answer(self) missing() twin(self)
covers.Hearing __init__(self,system,line) __call__(self,run,i)
prices.Prices __init__(self,early,rules,mends) fits(self,foe) ones(foe)
readers.Reading __init__(self,system,phrase,row,*,memory=False) __call__(self,run,i)
registers.Zero __eq__(self,other)
registers.Mix __init__(self,inner,measurer,target,good) __eq__(self,other)
starts.Starts __init__(self,system,rows,sealed) looks(self) first_of(self,place)
starts.Sealing __init__(self,starts,phrase,row) __call__(self,run,i)
desks.Desk __init__(self,system,foe,phrase,nonce) set_foe(self,foe) set_phrase(self,phrase) want(self,aim) drop(self,aim)
desks.Desk put_out(self,part) add_rule(self,premise,part) add_look(self,measurer,target) sign_all(self) undo(self)
desks.Desk again(self) opens(self,aim) taken(self,aim) paper(self,aim) mend(self,aim) aims(self) told() from_told(told)
trials.Trial __init__(self,desk) begin(self) finish(self) __enter__(self) __exit__(self,kind,value,trace)
"""


def arguments(value):
    """The arguments as the lists above write them."""
    return str(inspect.signature(value)).replace(" ", "")


def module_of(name):
    """The module of the package with this name."""
    return importlib.import_module("deeplooks." + name)


class Interface(unittest.TestCase):

    def test_functions(self):
        for line in FUNCTIONS.strip().split("\n"):
            module, *entries = line.split(" ")
            for entry in entries:
                name = entry.split("(")[0]
                found = getattr(module_of(module), name)
                self.assertEqual(name + arguments(found), entry)
                self.assertEqual(found.__module__, "deeplooks." + module)

    def test_classes(self):
        for line in CLASSES.strip().split("\n"):
            where, *entries = line.split(" ")
            module, name = where.split(".")
            held = getattr(module_of(module), name)
            self.assertEqual(held.__module__, "deeplooks." + module)
            for entry in entries:
                method = entry.split("(")[0]
                self.assertIn(method, vars(held), where)
                if entry.endswith("()"):
                    self.assertIsInstance(vars(held)[method], property)
                else:
                    self.assertEqual(method + arguments(getattr(held, method)), entry)

    def test_the_package_itself_binds_nothing(self):
        package = importlib.import_module("deeplooks")
        with open(package.__file__, encoding="utf-8") as file:
            self.assertEqual(file.read().count("import"), 0)


if __name__ == "__main__":
    unittest.main()
